import PyProof.Rows.All
import Wide.All
import OpenK.AllK
import Wide.FinOn
import HandS.ForMost
import HandS.IsInst
import HandS.Zip
import HandS.Walk
import HandS.ExcInit
import KE.GoesEnum
import KE.SortData
import HandS.MakeKwOnly
import HandS.Property
import HandS.ClsMeth
import HandS.FStr
import HandS.SlotsOwn
import HandS.Style
import HandS.Conv
import HandS.TupAny
import HandS.SetFor
import HandS.Deep
import HandS.Strs
import HandS.ExcIs
import HandS.ExcField
import HandS.ExcValue
import KE.KExcIs
import PySem.Challenge.RW_partfirsts_k70_errors_and_their_classes
set_option Elab.async false
set_option linter.all false
set_option maxRecDepth 100000
set_option maxHeartbeats 4000000
/-! data without a heap: D; what bears it: Rep; a judgement that speaks of data alone: Ev, Do -/
namespace Pf
open PySem L2

/-- data -/
inductive D where
  | non | bl (b : Bool) | int (i : Int) | str (x : Str)
  | lst (ds : List D) | tup (ds : List D)
  | dic (kvs : List (Key × D))
  | ins (C : Addr) (fs : List (Str × D))
  | ty (n : String) | adr (a : Addr)
  | exc (C : Addr) (fs : List (Str × D))

/-- the heap without what is hidden -/
def hd (M : Addr → Bool) (H : Hp) : Hp := fun a => if M a = true then none else H a
theorem hd_of {M : Addr → Bool} {H : Hp} {a : Addr} {o : HO} (h : hd M H a = some o) : M a = false ∧ H a = some o := by
  unfold hd at h
  cases e : M a with
  | true => rw [e, if_pos rfl] at h; cases h
  | false => rw [e, if_neg Bool.false_ne_true] at h; exact ⟨rfl, h⟩
theorem hd_at {M : Addr → Bool} {H : Hp} {a : Addr} {o : HO} (m : M a = false) (h : H a = some o) : hd M H a = some o := by
  unfold hd
  rw [m, if_neg Bool.false_ne_true]
  exact h
theorem same_hd (M : Addr → Bool) (H : Hp) : Same (hd M H) H := fun _ _ h => (hd_of h).2
theorem same_hd_le {M N : Addr → Bool} {H : Hp} (h : ∀ a, M a = true → N a = true) : Same (hd N H) (hd M H) := fun a o e => by
  obtain ⟨h1, h2⟩ := hd_of e
  refine hd_at ?_ h2
  cases q : M a with
  | true => rw [h a q] at h1; cases h1
  | false => rfl
theorem same_tup {K : PySem.W.Frag} {H H' : Hp} {a : Addr} {xs : List V} (e : Same H H') (h : SqT K H a xs) : SqT K H' a xs := by
  rcases h with (h | ⟨o, h⟩) | h
  · exact .inl (.inl (e _ _ h))
  · exact .inl (.inr ⟨o, e _ _ h⟩)
  · exact .inr h
theorem same_new {H : Hp} {p : Addr} {o : HO} (h : H p = none) : Same H (upd H p o) := fun a u e => by
  rw [upd_ne (ne_of_none e h)]
  exact e

mutual
inductive Rep (K : PySem.W.Frag) (H : Hp) : V → D → Prop
  | non : Rep K H .non .non
  | bl (b : Bool) : Rep K H (.bl b) (.bl b)
  | int (i : Int) : Rep K H (.int i) (.int i)
  | str (x : Str) : Rep K H (.str x) (.str x)
  | lst {a : Addr} {xs : List V} {ds : List D} : H a = some (.lst xs) → RepL K H xs ds → Rep K H (.ref a) (.lst ds)
  | tup {a : Addr} {xs : List V} {ds : List D} : SqT K H a xs → RepL K H xs ds → Rep K H (.ref a) (.tup ds)
  | dic {a : Addr} {kvs : List (Key × V)} {ds : List (Key × D)} : H a = some (.dK kvs) → RepK K H kvs ds → Rep K H (.ref a) (.dic ds)
  | ins {a C dx : Addr} {fs : List (Str × V)} {ds : List (Str × D)} : H a = some (.ins C dx fs) → RepF K H fs ds → Rep K H (.ref a) (.ins C ds)
  | ty (n : String) : Rep K H (.ty n) (.ty n)
  | adr (a : Addr) : Rep K H (.ref a) (.adr a)
  | exc {a C dx : Addr} {fs : List (Str × V)} {ds : List (Str × D)} : H a = some (exo a C (some dx)) → H dx = some (exd dx fs) → RepF K H fs ds → Rep K H (.ref a) (.exc C ds)
inductive RepL (K : PySem.W.Frag) (H : Hp) : List V → List D → Prop
  | nil : RepL K H [] []
  | cons {v : V} {vs : List V} {d : D} {ds : List D} : Rep K H v d → RepL K H vs ds → RepL K H (v :: vs) (d :: ds)
inductive RepK (K : PySem.W.Frag) (H : Hp) : List (Key × V) → List (Key × D) → Prop
  | nil : RepK K H [] []
  | cons {k : Key} {v : V} {vs : List (Key × V)} {d : D} {ds : List (Key × D)} : Rep K H v d → RepK K H vs ds → RepK K H ((k, v) :: vs) ((k, d) :: ds)
inductive RepF (K : PySem.W.Frag) (H : Hp) : List (Str × V) → List (Str × D) → Prop
  | nil : RepF K H [] []
  | cons {k : Str} {v : V} {vs : List (Str × V)} {d : D} {ds : List (Str × D)} : Rep K H v d → RepF K H vs ds → RepF K H ((k, v) :: vs) ((k, d) :: ds)
end
section
variable {K : PySem.W.Frag} {H H' : Hp}
mutual
theorem Rep.mono (e : Same H H') : ∀ {v : V} {d : D}, Rep K H v d → Rep K H' v d
  | _, _, .non => .non
  | _, _, .bl b => .bl b
  | _, _, .int i => .int i
  | _, _, .str x => .str x
  | _, _, .lst h r => .lst (e _ _ h) (RepL.mono e r)
  | _, _, .tup h r => .tup (same_tup e h) (RepL.mono e r)
  | _, _, .dic h r => .dic (e _ _ h) (RepK.mono e r)
  | _, _, .ins h r => .ins (e _ _ h) (RepF.mono e r)
  | _, _, .ty n => .ty n
  | _, _, .adr a => .adr a
  | _, _, .exc h g r => .exc (e _ _ h) (e _ _ g) (RepF.mono e r)
theorem RepL.mono (e : Same H H') : ∀ {v : List V} {d : List D}, RepL K H v d → RepL K H' v d
  | _, _, .nil => .nil
  | _, _, .cons h r => .cons (Rep.mono e h) (RepL.mono e r)
theorem RepK.mono (e : Same H H') : ∀ {v : List (Key × V)} {d : List (Key × D)}, RepK K H v d → RepK K H' v d
  | _, _, .nil => .nil
  | _, _, .cons h r => .cons (Rep.mono e h) (RepK.mono e r)
theorem RepF.mono (e : Same H H') : ∀ {v : List (Str × V)} {d : List (Str × D)}, RepF K H v d → RepF K H' v d
  | _, _, .nil => .nil
  | _, _, .cons h r => .cons (Rep.mono e h) (RepF.mono e r)
end
theorem RepL.length : ∀ {vs : List V} {ds : List D}, RepL K H vs ds → vs.length = ds.length
  | _, _, .nil => rfl
  | _, _, .cons _ r => congrArg Nat.succ (RepL.length r)
theorem RepL.get : ∀ {vs : List V} {ds : List D} {i : Nat} {d : D}, RepL K H vs ds → ds[i]? = some d → ∃ v, vs[i]? = some v ∧ Rep K H v d
  | _, _, _, _, .nil, e => by simp at e
  | _, _, 0, _, .cons h _, e => by simp at e; subst e; exact ⟨_, rfl, h⟩
  | _, _, i + 1, d, .cons _ r, e => by
    obtain ⟨v, h1, h2⟩ := RepL.get (i := i) (d := d) r (by simpa using e)
    exact ⟨v, by simpa using h1, h2⟩
theorem RepL.getV : ∀ {vs : List V} {ds : List D} {i : Nat} {v : V}, RepL K H vs ds → vs[i]? = some v → ∃ d, ds[i]? = some d ∧ Rep K H v d
  | _, _, _, _, .nil, e => by simp at e
  | _, _, 0, _, .cons h _, e => by simp at e; subst e; exact ⟨_, rfl, h⟩
  | _, _, i + 1, d, .cons _ r, e => by
    obtain ⟨v, h1, h2⟩ := RepL.getV (i := i) (v := d) r (by simpa using e)
    exact ⟨v, by simpa using h1, h2⟩
theorem RepL.append : ∀ {vs ws : List V} {ds es : List D}, RepL K H vs ds → RepL K H ws es → RepL K H (vs ++ ws) (ds ++ es)
  | _, _, _, _, .nil, s => s
  | _, _, _, _, .cons h r, s => .cons h (RepL.append r s)
theorem RepL.one {v : V} {d : D} (h : Rep K H v d) : RepL K H [v] [d] := .cons h .nil
theorem RepL.drop : ∀ {vs : List V} {ds : List D} (n : Nat), RepL K H vs ds → RepL K H (vs.drop n) (ds.drop n)
  | _, _, 0, r => r
  | _, _, _ + 1, .nil => .nil
  | _, _, n + 1, .cons _ r => RepL.drop n r
theorem RepL.take : ∀ {vs : List V} {ds : List D} (n : Nat), RepL K H vs ds → RepL K H (vs.take n) (ds.take n)
  | _, _, 0, _ => .nil
  | _, _, _ + 1, .nil => .nil
  | _, _, n + 1, .cons h r => .cons h (RepL.take n r)
theorem RepK.look : ∀ {vs : List (Key × V)} {ds : List (Key × D)}, RepK K H vs ds → vs.map (·.1) = ds.map (·.1)
  | _, _, .nil => rfl
  | _, _, .cons _ r => by simp only [List.map_cons, RepK.look r]
theorem RepF.get : ∀ {vs : List (Str × V)} {ds : List (Str × D)} {f : Str} {d : D}, RepF K H vs ds → ds.lookup f = some d → ∃ v, vs.lookup f = some v ∧ Rep K H v d
  | _, _, _, _, .nil, e => by simp at e
  | _, _, f, d, .cons (k := k) h r, e => by
    rw [List.lookup_cons] at e ⊢
    cases q : f == k with
    | true =>
      rw [q] at e
      cases e
      exact ⟨_, rfl, h⟩
    | false =>
      rw [q] at e
      exact RepF.get r e
theorem RepF.none : ∀ {vs : List (Str × V)} {ds : List (Str × D)} {f : Str}, RepF K H vs ds → ds.lookup f = Option.none → vs.lookup f = Option.none
  | _, _, _, .nil, e => by simp
  | _, _, f, .cons (k := k) h r, e => by
    rw [List.lookup_cons] at e ⊢
    cases q : f == k with
    | true =>
      rw [q] at e
      cases e
    | false =>
      rw [q] at e
      exact RepF.none r e
end

/-! an object of one's own: a list, a dict, an instance -/
inductive OD where
  | lst (ds : List D) | dic (kvs : List (Key × D)) | ins (C : Addr) (fs : List (Str × D))
inductive RepO (K : PySem.W.Frag) (H : Hp) : HO → OD → Prop
  | lst {xs : List V} {ds : List D} : RepL K H xs ds → RepO K H (.lst xs) (.lst ds)
  | dic {kvs : List (Key × V)} {ds : List (Key × D)} : RepK K H kvs ds → RepO K H (.dK kvs) (.dic ds)
  | ins {C dx : Addr} {fs : List (Str × V)} {ds : List (Str × D)} : RepF K H fs ds → RepO K H (.ins C dx fs) (.ins C ds)
theorem RepO.mono {K : PySem.W.Frag} {H H' : Hp} (e : Same H H') {o : HO} {d : OD} (h : RepO K H o d) : RepO K H' o d := by
  cases h with
  | lst r => exact .lst (r.mono e)
  | dic r => exact .dic (r.mono e)
  | ins r => exact .ins (r.mono e)
/-- as data -/
def OD.d : OD → D
  | .lst ds => .lst ds | .dic kvs => .dic kvs | .ins C fs => .ins C fs
theorem RepO.rep {K : PySem.W.Frag} {H : Hp} {a : Addr} {o : HO} {d : OD} (h : RepO K H o d) (e : H a = some o) : Rep K H (.ref a) d.d := by
  cases h with
  | lst r => exact .lst e r
  | dic r => exact .dic e r
  | ins r => exact .ins e r

/-! ### the bag of the draws -/
def BagAt (H : Hp) (b c : Addr) : Prop := ∃ (ns : List Int) (i : Nat) (z s t : Int),
  H b = some (.lst [.ref c, .int (i : Int), .int z, .int s, .int t]) ∧ c ≠ b ∧ H c = some (.lst (ns.map V.int)) ∧ i ≤ ns.length ∧ ns.length ≤ 63 ∧ 0 ≤ z ∧ 0 ≤ s ∧ s < 2147483587 ∧ 0 ≤ t
theorem BagAt.mono {H H' : Hp} {b c : Addr} (e : Same H H') : BagAt H b c → BagAt H' b c := fun ⟨ns, i, z, s, t, h1, h2, h3, h4⟩ =>
  ⟨ns, i, z, s, t, e _ _ h1, h2, e _ _ h3, h4⟩
theorem BagAt.at {H : Hp} {b c : Addr} (h : BagAt H b c) : ∃ o, H b = some o := by
  obtain ⟨ns, i, z, s, t, h1, _⟩ := h
  exact ⟨_, h1⟩

/-! ### the frame of a def -/
structure Fm where
  K : PySem.W.Frag
  B : Option Addr
  M0 : Addr → Bool
  H0 : Hp
  E : XK
  C0 : Addr
  T : List Addr
/-- what may change: the bag, the tables of code objects -/
def Fm.mv (F : Fm) (a : Addr) : Prop := F.B = some a ∨ a ∈ F.T
theorem mv_none {F : Fm} (hB : F.B = none) (hT : F.T = []) (a : Addr) : ¬ F.mv a := fun z => by
  rcases z with z | z
  · rw [hB] at z; cases z
  · rw [hT] at z; cases z
theorem mv_bag {F : Fm} {b : Addr} (hB : F.B = some b) (hT : F.T = []) {a : Addr} (h : a ≠ b) : ¬ F.mv a := fun z => by
  rcases z with z | z
  · rw [hB] at z; exact h (Option.some.inj z).symm
  · rw [hT] at z; cases z
/-- all but the bag is kept -/
def StepB (P : Addr → Prop) (H H' : Hp) : Prop := ∀ a o, ¬ P a → H a = some o → H' a = some o
theorem StepB.refl (B : Addr → Prop) (H : Hp) : StepB B H H := fun _ _ _ h => h
theorem StepB.trans {B : Addr → Prop} {H H1 H2 : Hp} (a : StepB B H H1) (b : StepB B H1 H2) : StepB B H H2 := fun c o n h => b c o n (a c o n h)
theorem StepB.of {B : Addr → Prop} {H H' : Hp} (e : Same H H') : StepB B H H' := fun a o _ h => e a o h
/-- what a slot bears -/
inductive SD where
  | un | dat (d : D) | own (p : Addr) (ds : OD) | bag | sq (ds : List D) | sl (ds : List D)
def SlotOk (F : Fm) (M : Addr → Bool) (H : Hp) (s : Option V) : SD → Prop
  | .un => True
  | .dat d => ∃ v, s = some v ∧ Rep F.K (hd M H) v d
  | .own p ds => s = some (.ref p) ∧ M p = true ∧ ∃ vs, H p = some vs ∧ RepO F.K (hd M H) vs ds
  | .bag => ∃ b, F.B = some b ∧ s = some (.ref b)
  | .sq ds => ∃ p vs, s = some (.ref p) ∧ ¬ F.mv p ∧ (SqL F.K F.H0 p vs ∨ SqT F.K F.H0 p vs) ∧ RepL F.K (hd M H) vs ds
  | .sl ds => ∃ p vs, s = some (.ref p) ∧ ¬ F.mv p ∧ SqL F.K F.H0 p vs ∧ RepL F.K (hd M H) vs ds
structure Ctx (F : Fm) (M : Addr → Bool) (σ : L2.St) (H : Hp) (δ : List SD) : Prop where
  al : ∀ a, M a = true → ∃ o, H a = some o
  al0 : ∀ a, F.M0 a = true → ∃ o, F.H0 a = some o
  m0 : ∀ a, F.M0 a = true → M a = true
  fr : StepB F.mv F.H0 H
  bg : (∀ b, F.B = some b → F.M0 b = true ∧ BagAt H b F.C0 ∧ ∃ o, F.H0 F.C0 = some o) ∧ ∀ a ∈ F.T, F.M0 a = true ∧ ∃ ps, H a = some (.tbl ps)
  ln : σ.length = δ.length
  sl : ∀ (i : Nat) (x : SD), δ[i]? = some x → ∃ s, σ[i]? = some s ∧ SlotOk F M H s x
  dj : ∀ (i j : Nat) (p : Addr) (ds es : OD), δ[i]? = some (.own p ds) → δ[j]? = some (.own p es) → i = j
  oh : ∀ (i : Nat) (p : Addr) (ds : OD), δ[i]? = some (.own p ds) → F.H0 p = none ∧ ¬ F.mv p
section
variable {F : Fm} {M M' : Addr → Bool} {σ : L2.St} {H H' : Hp} {δ : List SD}
theorem hd_step (c : Ctx F M σ H δ) (e : StepB F.mv H H') : Same (hd M H) (hd M H') := fun a o h => by
  obtain ⟨m, h1⟩ := hd_of h
  refine hd_at m (e a o (fun z => ?_) h1)
  have q := c.m0 a (z.elim (fun z => (c.bg.1 a z).1) fun z => (c.bg.2 a z).1)
  rw [m] at q
  cases q
theorem SlotOk.step (c : Ctx F M σ H δ) (e : StepB F.mv H H') {s : Option V} {x : SD} (hx : ∀ p ds, x = .own p ds → ¬ F.mv p) (h : SlotOk F M H s x) : SlotOk F M H' s x := by
  cases x with
  | un => trivial
  | dat d =>
    obtain ⟨v, h1, h2⟩ := h
    exact ⟨v, h1, h2.mono (hd_step c e)⟩
  | own p ds =>
    obtain ⟨h1, h2, vs, h3, h4⟩ := h
    exact ⟨h1, h2, vs, e p _ (hx p ds rfl) h3, h4.mono (hd_step c e)⟩
  | bag => exact h
  | sq ds =>
    obtain ⟨p, vs, h1, h2, h3, h4⟩ := h
    exact ⟨p, vs, h1, h2, h3, h4.mono (hd_step c e)⟩
  | sl ds =>
    obtain ⟨p, vs, h1, h2, h3, h4⟩ := h
    exact ⟨p, vs, h1, h2, h3, h4.mono (hd_step c e)⟩
/-- all but the bag is kept, the bag stays a bag -/
theorem Ctx.stepG (c : Ctx F M σ H δ) (e : StepB F.mv H H') (bg : (∀ b, F.B = some b → F.M0 b = true ∧ BagAt H' b F.C0 ∧ ∃ o, F.H0 F.C0 = some o) ∧ ∀ a ∈ F.T, F.M0 a = true ∧ ∃ ps, H' a = some (.tbl ps)) : Ctx F M σ H' δ := by
  refine ⟨fun a m => ?_, c.al0, c.m0, c.fr.trans e, bg, c.ln, fun i x hx => ?_, c.dj, c.oh⟩
  · by_cases z : F.mv a
    · rcases z with z | z
      · obtain ⟨_, h2, _⟩ := bg.1 a z
        exact h2.at
      · obtain ⟨_, ps, h2⟩ := bg.2 a z
        exact ⟨_, h2⟩
    · obtain ⟨o, h⟩ := c.al a m
      exact ⟨o, e a o z h⟩
  · obtain ⟨s, h1, h2⟩ := c.sl i x hx
    refine ⟨s, h1, h2.step c e fun p ds z => ?_⟩
    subst z
    exact (c.oh i p ds hx).2
theorem Ctx.step (c : Ctx F M σ H δ) (e : StepB F.mv H H') (hb : ∀ b, F.B = some b → BagAt H b F.C0 → BagAt H' b F.C0) (ht : ∀ a ∈ F.T, ∀ ps, H a = some (.tbl ps) → ∃ ps', H' a = some (.tbl ps')) : Ctx F M σ H' δ :=
  c.stepG e ⟨fun b z => by
    obtain ⟨h1, h2, h3⟩ := c.bg.1 b z
    exact ⟨h1, hb b z h2, h3⟩, fun a h => by
    obtain ⟨h1, ps, h2⟩ := c.bg.2 a h
    exact ⟨h1, ht a h ps h2⟩⟩
theorem Ctx.same (c : Ctx F M σ H δ) (e : Same H H') : Ctx F M σ H' δ := c.step (StepB.of e) (fun b z h => h.mono e) fun a _ ps h => ⟨ps, e _ _ h⟩
theorem Ctx.get (c : Ctx F M σ H δ) {i : Nat} {d : D} (h : δ[i]? = some (.dat d)) : ∃ v, σ[i]? = some (some v) ∧ Rep F.K (hd M H) v d := by
  obtain ⟨s, h1, v, h2, h3⟩ := c.sl i _ h
  subst h2
  exact ⟨v, h1, h3⟩
theorem Ctx.set (c : Ctx F M σ H δ) (i : Nat) {v : V} {d : D} (r : Rep F.K (hd M H) v d) : Ctx F M (σ.set i (some v)) H (δ.set i (.dat d)) := by
  have key : ∀ (j : Nat) (x : SD), (δ.set i (.dat d))[j]? = some x → (i = j ∧ x = .dat d) ∨ (i ≠ j ∧ δ[j]? = some x) := fun j x hx => by
    by_cases hj : i = j
    · subst hj
      rw [List.getElem?_set] at hx
      rw [if_pos rfl] at hx
      split at hx
      · exact .inl ⟨rfl, (Option.some.inj hx).symm⟩
      · cases hx
    · rw [List.getElem?_set_ne hj] at hx
      exact .inr ⟨hj, hx⟩
  refine ⟨c.al, c.al0, c.m0, c.fr, c.bg, by rw [List.length_set, List.length_set, c.ln], fun j x hx => ?_, fun j k p ds es h1 h2 => ?_, fun j p ds h => ?_⟩
  · rcases key j x hx with ⟨rfl, rfl⟩ | ⟨hj, hx⟩
    · have hl : i < σ.length := by
        have := (List.getElem?_eq_some_iff.mp hx).1
        rw [List.length_set] at this
        rw [c.ln]
        exact this
      exact ⟨some v, by rw [List.getElem?_set_self hl], v, rfl, r⟩
    · rw [List.getElem?_set_ne hj]
      exact c.sl j x hx
  · rcases key j _ h1 with ⟨_, z⟩ | ⟨_, h1⟩
    · cases z
    rcases key k _ h2 with ⟨_, z⟩ | ⟨_, h2⟩
    · cases z
    exact c.dj j k p ds es h1 h2
  · rcases key j _ h with ⟨_, z⟩ | ⟨_, h⟩
    · cases z
    exact c.oh j p ds h
/-- a slot forgotten -/
theorem Ctx.drop (c : Ctx F M σ H δ) (i : Nat) (s : Option V) : Ctx F M (σ.set i s) H (δ.set i .un) := by
  have key : ∀ (j : Nat) (x : SD), (δ.set i .un)[j]? = some x → (i = j ∧ x = .un) ∨ (i ≠ j ∧ δ[j]? = some x) := fun j x hx => by
    by_cases hj : i = j
    · subst hj
      rw [List.getElem?_set] at hx
      rw [if_pos rfl] at hx
      split at hx
      · exact .inl ⟨rfl, (Option.some.inj hx).symm⟩
      · cases hx
    · rw [List.getElem?_set_ne hj] at hx
      exact .inr ⟨hj, hx⟩
  refine ⟨c.al, c.al0, c.m0, c.fr, c.bg, by rw [List.length_set, List.length_set, c.ln], fun j x hx => ?_, fun j k p ds es h1 h2 => ?_, fun j p ds h => ?_⟩
  · rcases key j x hx with ⟨rfl, rfl⟩ | ⟨hj, hx⟩
    · have hl : i < σ.length := by
        have := (List.getElem?_eq_some_iff.mp hx).1
        rw [List.length_set] at this
        rw [c.ln]
        exact this
      exact ⟨s, by rw [List.getElem?_set_self hl], trivial⟩
    · rw [List.getElem?_set_ne hj]
      exact c.sl j x hx
  · rcases key j _ h1 with ⟨_, z⟩ | ⟨_, h1⟩
    · cases z
    rcases key k _ h2 with ⟨_, z⟩ | ⟨_, h2⟩
    · cases z
    exact c.dj j k p ds es h1 h2
  · rcases key j _ h with ⟨_, z⟩ | ⟨_, h⟩
    · cases z
    exact c.oh j p ds h
def wipeD (δ : List SD) : List Nat → List SD
  | [] => δ
  | v :: vs => (wipeD δ vs).set v .un
theorem Ctx.wipe (c : Ctx F M σ H δ) : ∀ vs : List Nat, Ctx F M (wipe σ vs) H (wipeD δ vs)
  | [] => c
  | v :: vs => (Ctx.wipe c vs).drop v none
end

/-! ### judgements -/
def Ev (F : Fm) (te : TE) (δ : List SD) (P : D → Prop) : Prop := ∀ M σ H (Q : VK), Ctx F M σ H δ →
  (∀ v d H', P d → Ctx F M σ H' δ → StepB F.mv H H' → Rep F.K (hd M H') v d → Q v H') → te σ H Q
def EvT (F : Fm) (tt : TT) (δ : List SD) (P : Bool → Prop) : Prop := ∀ M σ H (Q : Bool → Hp → Prop), Ctx F M σ H δ →
  (∀ b H', P b → Ctx F M σ H' δ → StepB F.mv H H' → Q b H') → tt σ H Q
def EvA (F : Fm) (ta : TA) (δ : List SD) (P : List D → Prop) : Prop := ∀ M σ H (Q : List V → Hp → Prop), Ctx F M σ H δ →
  (∀ vs ds H', P ds → Ctx F M σ H' δ → StepB F.mv H H' → RepL F.K (hd M H') vs ds → Q vs H') → ta σ H Q
def Al (M : Addr → Bool) (H : Hp) : Prop := ∀ a, M a = true → ∃ o, H a = some o
/-- a two-place operation on data -/
def OpD (K : PySem.W.Frag) (r : R2) (x y : D) (P : D → Prop) : Prop := ∀ (M : Addr → Bool) (H : Hp) (v w : V) (Q : VK), Al M H → Rep K (hd M H) v x → Rep K (hd M H) w y →
  (∀ u d H', P d → Same H H' → Rep K (hd M H') u d → Q u H') → r v w H Q
def UnD (K : PySem.W.Frag) (r : V → Hp → VK → Prop) (x : D) (P : D → Prop) : Prop := ∀ (M : Addr → Bool) (H : Hp) (v : V) (Q : VK), Al M H → Rep K (hd M H) v x →
  (∀ u d H', P d → Same H H' → Rep K (hd M H') u d → Q u H') → r v H Q
/-- a call on data -/
def CallD (K : PySem.W.Frag) (r : List V → Hp → VK → Prop) (ds : List D) (P : D → Prop) : Prop := ∀ (M : Addr → Bool) (H : Hp) (vs : List V) (Q : VK), Al M H → RepL K (hd M H) vs ds →
  (∀ u d H', P d → Same H H' → Rep K (hd M H') u d → Q u H') → r vs H Q
theorem sz_of {n : Nat} (h : n ≤ 100000) : n ≤ sizeLine := Nat.le_trans h (by decide)
theorem sz_lt {n : Nat} (h : n < 100000) : n < sizeLine := Nat.lt_of_lt_of_le h (by decide)
theorem hd_new {M : Addr → Bool} {H : Hp} {p : Addr} {o : HO} (al : Al M H) (hp : H p = none) : hd M (upd H p o) p = some o := by
  refine hd_at ?_ upd_same
  cases e : M p with
  | true =>
    obtain ⟨u, h⟩ := al p e
    rw [hp] at h
    cases h
  | false => rfl
theorem same_hdM {M : Addr → Bool} {H H' : Hp} (e : Same H H') : Same (hd M H) (hd M H') := fun a o h => by
  obtain ⟨m, h1⟩ := hd_of h
  exact hd_at m (e a o h1)
section
variable {F : Fm} {δ : List SD} {ta tb tc te : TE} {tt tu : TT} {P P1 P2 P3 : D → Prop} {PT : Bool → Prop} {PA : List D → Prop}
theorem Ev.imp (h : Ev F te δ P) (i : ∀ d, P d → P1 d) : Ev F te δ P1 := fun M σ H Q c q => h M σ H Q c fun v d H' p => q v d H' (i d p)
theorem EvT.imp {PB PC : Bool → Prop} (h : EvT F tt δ PB) (i : ∀ d, PB d → PC d) : EvT F tt δ PC := fun M σ H Q c q => h M σ H Q c fun v H' p => q v H' (i v p)
theorem EvA.imp {ta : TA} {PB PC : List D → Prop} (h : EvA F ta δ PB) (i : ∀ d, PB d → PC d) : EvA F ta δ PC := fun M σ H Q c q => h M σ H Q c fun v d H' p => q v d H' (i d p)
theorem ev_var {i : Nat} {d : D} (h : δ[i]? = some (.dat d)) (p : P d) : Ev F (tVar i) δ P := fun M σ H Q c q => by
  obtain ⟨v, h1, h2⟩ := c.get h
  exact ⟨v, h1, q v d H p c (StepB.refl _ _) h2⟩
theorem ev_int {i : Int} (p : P (.int i)) : Ev F (tC (.int i)) δ P := fun M σ H Q c q => q _ _ H p c (StepB.refl _ _) (.int i)
theorem ev_bl {b : Bool} (p : P (.bl b)) : Ev F (tC (.bl b)) δ P := fun M σ H Q c q => q _ _ H p c (StepB.refl _ _) (.bl b)
theorem ev_str {x : Str} (p : P (.str x)) : Ev F (tC (.str x)) δ P := fun M σ H Q c q => q _ _ H p c (StepB.refl _ _) (.str x)
theorem ev_ty {n : String} (p : P (.ty n)) : Ev F (tC (.ty n)) δ P := fun M σ H Q c q => q _ _ H p c (StepB.refl _ _) (.ty n)
theorem ev_adr {a : Addr} (p : P (.adr a)) : Ev F (tC (.ref a)) δ P := fun M σ H Q c q => q _ _ H p c (StepB.refl _ _) (.adr a)
theorem ev_non (p : P .non) : Ev F (tC .non) δ P := fun M σ H Q c q => q _ _ H p c (StepB.refl _ _) .non
theorem ev_op {r : R2} (h : Ev F ta δ fun x => Ev F tb δ fun y => OpD F.K r x y P) : Ev F (tOp r ta tb) δ P := fun M σ H Q c q =>
  h M σ H _ c fun v x H1 p1 c1 e1 r1 => p1 M σ H1 _ c1 fun w y H2 p2 c2 e2 r2 =>
    p2 M H2 v w Q c2.al (r1.mono (hd_step c1 e2)) r2 fun u d H3 p e r3 => q u d H3 p (c2.same e) ((e1.trans e2).trans (StepB.of e)) r3
theorem ev_un {r : V → Hp → VK → Prop} (h : Ev F ta δ fun x => UnD F.K r x P) : Ev F (tUn r ta) δ P := fun M σ H Q c q =>
  h M σ H _ c fun v x H1 p1 c1 e1 r1 => p1 M H1 v Q c1.al r1 fun u d H3 p e r3 => q u d H3 p (c1.same e) (e1.trans (StepB.of e)) r3
/-- and, or, not of bools, as values -/
theorem ev_and (h : Ev F ta δ fun d => ∃ b, d = .bl b ∧ (b = true → Ev F tb δ P) ∧ (b = false → P (.bl false))) : Ev F (tAndV ta tb) δ P := fun M σ H Q c q =>
  h M σ H _ c fun v x H1 p1 c1 e1 r1 => by
    obtain ⟨b, rfl, h1, h2⟩ := p1
    cases r1
    refine ⟨b, rfl, ?_⟩
    cases b with
    | true => exact h1 rfl M σ H1 Q c1 fun u d H2 p c2 e2 r2 => q u d H2 p c2 (e1.trans e2) r2
    | false => exact q _ _ H1 (h2 rfl) c1 e1 (.bl false)
theorem ev_or (h : Ev F ta δ fun d => ∃ b, d = .bl b ∧ (b = false → Ev F tb δ P) ∧ (b = true → P (.bl true))) : Ev F (tOrV ta tb) δ P := fun M σ H Q c q =>
  h M σ H _ c fun v x H1 p1 c1 e1 r1 => by
    obtain ⟨b, rfl, h1, h2⟩ := p1
    cases r1
    refine ⟨b, rfl, ?_⟩
    cases b with
    | false => exact h1 rfl M σ H1 Q c1 fun u d H2 p c2 e2 r2 => q u d H2 p c2 (e1.trans e2) r2
    | true => exact q _ _ H1 (h2 rfl) c1 e1 (.bl true)
theorem ev_not (h : Ev F ta δ fun d => ∃ b, d = .bl b ∧ P (.bl (!b))) : Ev F (tNotV ta) δ P := fun M σ H Q c q =>
  h M σ H _ c fun v x H1 p1 c1 e1 r1 => by
    obtain ⟨b, rfl, pb⟩ := p1
    cases r1
    exact ⟨b, rfl, q _ _ H1 pb c1 e1 (.bl _)⟩
theorem ev_if (h : EvT F tt δ fun b => (b = true → Ev F ta δ P) ∧ (b = false → Ev F tb δ P)) : Ev F (tIf tt ta tb) δ P := fun M σ H Q c q =>
  h M σ H _ c fun b H1 pb c1 e1 => by
    cases b with
    | true => exact pb.1 rfl M σ H1 Q c1 fun u d H2 p c2 e2 r2 => q u d H2 p c2 (e1.trans e2) r2
    | false => exact pb.2 rfl M σ H1 Q c1 fun u d H2 p c2 e2 r2 => q u d H2 p c2 (e1.trans e2) r2
/-- a op1 b op2 c -/
theorem ev_chain {r r' : R2} (h : Ev F ta δ fun x => Ev F tb δ fun y => OpD F.K r x y fun z => ∃ b, z = .bl b ∧ (b = true → Ev F tc δ fun w => OpD F.K r' y w P) ∧ (b = false → P (.bl false))) : Ev F (tChain r r' ta tb tc) δ P := fun M σ H Q c q =>
  by
  refine h M σ H _ c fun v x H1 p1 c1 e1 r1 => ?_
  refine p1 M σ H1 _ c1 fun w y H2 p2 c2 e2 r2 => ?_
  refine p2 M H2 v w _ c2.al (r1.mono (hd_step c1 e2)) r2 fun u d H3 p e r3 => ?_
  obtain ⟨b, rfl, h1, h2⟩ := p
  cases r3
  refine ⟨b, rfl, ?_⟩
  cases b with
  | false => exact q _ _ H3 (h2 rfl) (c2.same e) ((e1.trans e2).trans (StepB.of e)) (.bl false)
  | true =>
    rw [if_pos rfl]
    refine h1 rfl M σ H3 _ (c2.same e) fun u4 d4 H4 p4 c4 e4 r4 => ?_
    refine p4 M H4 w u4 Q c4.al (r2.mono ((same_hdM e).trans (hd_step (c2.same e) e4))) r4 fun u5 d5 H5 p5 e5 r5 => ?_
    exact q u5 d5 H5 p5 (c4.same e5) (((e1.trans e2).trans (StepB.of e)).trans (e4.trans (StepB.of e5))) r5
/-! tests -/
theorem et_test (h : Ev F te δ fun d => ∃ b, d = .bl b ∧ PT b) : EvT F (tTest te) δ PT := fun M σ H Q c q =>
  h M σ H _ c fun v x H1 p1 c1 e1 r1 => by
    obtain ⟨b, rfl, pb⟩ := p1
    cases r1
    exact ⟨b, rfl, q b H1 pb c1 e1⟩
theorem et_B (h : Ev F te δ fun d => ∃ b, d = .bl b ∧ PT b) : EvT F (tB te) δ PT := fun M σ H Q c q =>
  h M σ H _ c fun v x H1 p1 c1 e1 r1 => by
    obtain ⟨b, rfl, pb⟩ := p1
    cases r1
    exact ⟨b, rfl, q b H1 pb c1 e1⟩
theorem et_and (h : EvT F tt δ fun b => (b = true → EvT F tu δ PT) ∧ (b = false → PT false)) : EvT F (tAnd tt tu) δ PT := fun M σ H Q c q =>
  h M σ H _ c fun b H1 pb c1 e1 => by
    cases b with
    | true => exact pb.1 rfl M σ H1 Q c1 fun b2 H2 p c2 e2 => q b2 H2 p c2 (e1.trans e2)
    | false => exact q false H1 (pb.2 rfl) c1 e1
theorem et_or (h : EvT F tt δ fun b => (b = false → EvT F tu δ PT) ∧ (b = true → PT true)) : EvT F (tOr tt tu) δ PT := fun M σ H Q c q =>
  h M σ H _ c fun b H1 pb c1 e1 => by
    cases b with
    | false => exact pb.1 rfl M σ H1 Q c1 fun b2 H2 p c2 e2 => q b2 H2 p c2 (e1.trans e2)
    | true => exact q true H1 (pb.2 rfl) c1 e1
theorem et_not (h : EvT F tt δ fun b => PT (!b)) : EvT F (tNot tt) δ PT := fun M σ H Q c q =>
  h M σ H _ c fun b H1 pb c1 e1 => q (!b) H1 pb c1 e1
theorem et_yes (p : PT true) : EvT F tYes δ PT := fun M σ H Q c q => q true H p c (StepB.refl _ _)
/-! lists of values -/
theorem ea_nil (p : PA []) : EvA F tNil δ PA := fun M σ H Q c q => q [] [] H p c (StepB.refl _ _) .nil
theorem ea_cons {tr : TA} (h : Ev F te δ fun x => EvA F tr δ fun r => PA (x :: r)) : EvA F (tCons te tr) δ PA := fun M σ H Q c q =>
  h M σ H _ c fun v x H1 p1 c1 e1 r1 => p1 M σ H1 _ c1 fun vs ds H2 p2 c2 e2 r2 => q _ (x :: ds) H2 p2 c2 (e1.trans e2) (.cons (r1.mono (hd_step c1 e2)) r2)
theorem ev_tup {ta : TA} (h : EvA F ta δ fun ds => ds.length ≤ 100000 ∧ P (.tup ds)) : Ev F (tTup ta) δ P := fun M σ H Q c q =>
  h M σ H _ c fun vs ds H1 p1 c1 e1 r1 => ⟨by rw [r1.length]; exact sz_of p1.1, fun p hp =>
    q _ (.tup ds) _ p1.2 (c1.same (same_new hp)) (e1.trans (StepB.of (same_new hp))) (.tup (SqT.of (hd_new c1.al hp)) (r1.mono (same_hdM (same_new hp))))⟩
theorem ev_lst {ta : TA} (h : EvA F ta δ fun ds => ds.length ≤ 100000 ∧ P (.lst ds)) : Ev F (tLst ta) δ P := fun M σ H Q c q =>
  h M σ H _ c fun vs ds H1 p1 c1 e1 r1 => ⟨by rw [r1.length]; exact sz_of p1.1, fun p hp =>
    q _ (.lst ds) _ p1.2 (c1.same (same_new hp)) (e1.trans (StepB.of (same_new hp))) (.lst (hd_new c1.al hp) (r1.mono (same_hdM (same_new hp))))⟩
theorem ev_cb {r : List V → Hp → VK → Prop} {ta : TA} (h : EvA F ta δ fun ds => CallD F.K r ds P) : Ev F (tCB r ta) δ P := fun M σ H Q c q =>
  h M σ H _ c fun vs ds H1 p1 c1 e1 r1 => p1 M H1 vs Q c1.al r1 fun u d H2 p e r2 => q u d H2 p (c1.same e) (e1.trans (StepB.of e)) r2
end
/-! ### operations on data -/
section
variable {K : PySem.W.Frag} {P : D → Prop} {i j : Int}
theorem od_I0 {g : Int → Int → V} {d : D} (hr : ∀ H, Rep K H (g i j) d) (p : P d) : OpD K (rI0 g) (.int i) (.int j) P := fun M H v w Q al r1 r2 q => by
  cases r1
  cases r2
  exact ⟨i, j, rfl, rfl, q _ d H p (Same.refl H) (hr _)⟩
theorem od_I {C : Int → Int → Prop} {g : Int → Int → V} {d : D} (hc : C i j) (hr : ∀ H, Rep K H (g i j) d) (p : P d) : OpD K (rI C g) (.int i) (.int j) P := fun M H v w Q al r1 r2 q => by
  cases r1
  cases r2
  exact ⟨i, j, rfl, rfl, hc, q _ d H p (Same.refl H) (hr _)⟩
theorem od_int {g : Int → Int → Int} (p : P (.int (g i j))) : OpD K (rI0 fun i j => .int (g i j)) (.int i) (.int j) P := od_I0 (fun _ => .int _) p
theorem od_bl {g : Int → Int → Bool} (p : P (.bl (g i j))) : OpD K (rI0 fun i j => .bl (g i j)) (.int i) (.int j) P := od_I0 (fun _ => .bl _) p
theorem od_intC {C : Int → Int → Prop} {g : Int → Int → Int} (hc : C i j) (p : P (.int (g i j))) : OpD K (rI C fun i j => .int (g i j)) (.int i) (.int j) P := od_I hc (fun _ => .int _) p
end
end Pf

namespace Pf
open PySem L2 RZ

/-! ### statements on data -/
structure PD where
  nx : List SD → Prop
  rt : D → Prop := fun _ => False
  bk : List SD → Prop := fun _ => False
  ct : List SD → Prop := fun _ => False
def Do (F : Fm) (ts : TS) (δ : List SD) (P : PD) : Prop := ∀ M σ H (E : Ends), Ctx F M σ H δ →
  (∀ M' σ' H' δ', P.nx δ' → Ctx F M' σ' H' δ' → Same (hd M H) (hd M' H') → E.nx σ' H') →
  (∀ v d M' σ' H' δ', P.rt d → Ctx F M' σ' H' δ' → Same (hd M H) (hd M' H') → Rep F.K (hd M' H') v d → E.rt v H') →
  (∀ M' σ' H' δ', P.bk δ' → Ctx F M' σ' H' δ' → Same (hd M H) (hd M' H') → E.bk σ' H') →
  (∀ M' σ' H' δ', P.ct δ' → Ctx F M' σ' H' δ' → Same (hd M H) (hd M' H') → E.ct σ' H') → ts E σ H
/-- a target -/
def TgD (F : Fm) (g : TG) (js : List Nat) (x : D) (δ : List SD) (R : List SD → Prop) : Prop := ∀ M σ H v (Q : L2.St → Hp → Prop), Ctx F M σ H δ → Rep F.K (hd M H) v x →
  (∀ σ' H' δ', R δ' → Ctx F M σ' H' δ' → StepB F.mv H H' → (∀ vs : List Nat, (∀ j ∈ js, j ∈ vs) → wipe σ' vs = wipe σ vs) → Q σ' H') → g v σ H Q
def TgsD (F : Fm) (g : TGs) (js : List Nat) (x : List D) (δ : List SD) (R : List SD → Prop) : Prop := ∀ M σ H v (Q : L2.St → Hp → Prop), Ctx F M σ H δ → RepL F.K (hd M H) v x →
  (∀ σ' H' δ', R δ' → Ctx F M σ' H' δ' → StepB F.mv H H' → (∀ vs : List Nat, (∀ j ∈ js, j ∈ vs) → wipe σ' vs = wipe σ vs) → Q σ' H') → g v σ H Q
/-- what is walked -/
def WalkD (F : Fm) (J : It) (M : Addr → Bool) (H : Hp) (xs : List D) : Prop := ∃ (G : Hp → Prop) (Y : Nat → Hp → V → Hp → Prop), Walk J xs.length G Y ∧
  (∀ M2 H2, Same (hd M H) (hd M2 H2) → StepB F.mv F.H0 H2 → G H2) ∧ ∀ M2 H2 i x H3, Al M2 H2 → Same (hd M H) (hd M2 H2) → Y i H2 x H3 → Same H2 H3 ∧ ∃ d, xs[i]? = some d ∧ Rep F.K (hd M2 H3) x d
def ItD (F : Fm) (wi : TI) (δ : List SD) (PX : List D → Prop) : Prop := ∀ M σ H (R : It → Hp → Prop), Ctx F M σ H δ →
  (∀ J xs H', PX xs → Ctx F M σ H' δ → StepB F.mv H H' → WalkD F J M H' xs → R J H') → wi σ H R
section
variable {F : Fm} {δ : List SD} {ta tb tc te : TE} {t u ts : TS} {tt tu : TT} {P : D → Prop} {PX : List D → Prop} {R : PD} {M : Addr → Bool} {σ : L2.St} {H H' : Hp} {g : TG} {gs : TGs} {wi : TI}
theorem Do.imp {R' : PD} (h : Do F t δ R) (h1 : ∀ δ', R.nx δ' → R'.nx δ') (h2 : ∀ d, R.rt d → R'.rt d) (h3 : ∀ δ', R.bk δ' → R'.bk δ') (h4 : ∀ δ', R.ct δ' → R'.ct δ') : Do F t δ R' := fun M σ H E c a b k d =>
  h M σ H E c (fun M' σ' H' δ' p => a M' σ' H' δ' (h1 _ p)) (fun v d M' σ' H' δ' p => b v d M' σ' H' δ' (h2 _ p)) (fun M' σ' H' δ' p => k M' σ' H' δ' (h3 _ p)) (fun M' σ' H' δ' p => d M' σ' H' δ' (h4 _ p))
theorem do_seq (h : Do F t δ { R with nx := fun δ' => Do F u δ' R }) : Do F (tSeq t u) δ R := fun M σ H E c a b k d =>
  h M σ H { E with nx := u E } c (fun M' σ' H' δ' p c' s => p M' σ' H' E c' (fun M2 σ2 H2 δ2 p2 c2 s2 => a M2 σ2 H2 δ2 p2 c2 (s.trans s2)) (fun v x M2 σ2 H2 δ2 p2 c2 s2 => b v x M2 σ2 H2 δ2 p2 c2 (s.trans s2))
    (fun M2 σ2 H2 δ2 p2 c2 s2 => k M2 σ2 H2 δ2 p2 c2 (s.trans s2)) (fun M2 σ2 H2 δ2 p2 c2 s2 => d M2 σ2 H2 δ2 p2 c2 (s.trans s2))) b k d
theorem do_next (p : R.nx δ) : Do F tNext δ R := fun M σ H E c a b k d => a M σ H δ p c (Same.refl _)
theorem do_brk (p : R.bk δ) : Do F tBreak δ R := fun M σ H E c a b k d => k M σ H δ p c (Same.refl _)
theorem do_cont (p : R.ct δ) : Do F tCont δ R := fun M σ H E c a b k d => d M σ H δ p c (Same.refl _)
theorem do_ret (h : Ev F te δ R.rt) : Do F (tRet te) δ R := fun M σ H E c a b k d =>
  h M σ H _ c fun v x H1 p c1 e r => b v x M σ H1 δ p c1 (hd_step c e) r
theorem do_retN (p : R.rt .non) : Do F tRetN δ R := fun M σ H E c a b k d => b _ _ M σ H δ p c (Same.refl _) .non
theorem do_drop (h : Ev F te δ fun _ => R.nx δ) : Do F (tDrop te) δ R := fun M σ H E c a b k d =>
  h M σ H _ c fun v x H1 p c1 e r => a M σ H1 δ p c1 (hd_step c e)
theorem do_set {i : Nat} (h : Ev F te δ fun x => R.nx (δ.set i (.dat x))) : Do F (tAsg te (gName i)) δ R := fun M σ H E c a b k d =>
  h M σ H _ c fun v x H1 p c1 e r => a M _ H1 _ p (c1.set i r) (hd_step c e)
theorem do_asg {js : List Nat} (h : Ev F te δ fun x => TgD F g js x δ R.nx) : Do F (tAsg te g) δ R := fun M σ H E c a b k d =>
  h M σ H _ c fun v x H1 p c1 e r => p M σ H1 v _ c1 r fun σ2 H2 δ2 p2 c2 e2 _ => a M σ2 H2 δ2 p2 c2 ((hd_step c e).trans (hd_step c1 e2))
theorem do_if (h : EvT F tt δ fun b => (b = true → Do F t δ R) ∧ (b = false → Do F u δ R)) : Do F (tIfS tt t u) δ R := fun M σ H E c a b k d =>
  h M σ H _ c fun y H1 p c1 e => by
    have s := hd_step c e
    cases y with
    | true =>
      exact p.1 rfl M σ H1 E c1 (fun M2 σ2 H2 δ2 p2 c2 s2 => a M2 σ2 H2 δ2 p2 c2 (s.trans s2)) (fun v x M2 σ2 H2 δ2 p2 c2 s2 => b v x M2 σ2 H2 δ2 p2 c2 (s.trans s2))
        (fun M2 σ2 H2 δ2 p2 c2 s2 => k M2 σ2 H2 δ2 p2 c2 (s.trans s2)) (fun M2 σ2 H2 δ2 p2 c2 s2 => d M2 σ2 H2 δ2 p2 c2 (s.trans s2))
    | false =>
      exact p.2 rfl M σ H1 E c1 (fun M2 σ2 H2 δ2 p2 c2 s2 => a M2 σ2 H2 δ2 p2 c2 (s.trans s2)) (fun v x M2 σ2 H2 δ2 p2 c2 s2 => b v x M2 σ2 H2 δ2 p2 c2 (s.trans s2))
        (fun M2 σ2 H2 δ2 p2 c2 s2 => k M2 σ2 H2 δ2 p2 c2 (s.trans s2)) (fun M2 σ2 H2 δ2 p2 c2 s2 => d M2 σ2 H2 δ2 p2 c2 (s.trans s2))
/-! targets -/
theorem wipe_set {j : Nat} {s : Option V} : ∀ {vs : List Nat}, j ∈ vs → wipe (σ.set j s) vs = wipe σ vs
  | [], h => by cases h
  | v :: vs, h => by
    show (wipe (σ.set j s) vs).set v none = (wipe σ vs).set v none
    by_cases hv : j = v
    · subst hv
      have key : ∀ ws : List Nat, (wipe (σ.set j s) ws).set j none = (wipe σ ws).set j none := by
        intro ws
        induction ws with
        | nil =>
          show (σ.set j s).set j none = σ.set j none
          rw [List.set_set]
        | cons w ws ih =>
          show ((wipe (σ.set j s) ws).set w none).set j none = ((wipe σ ws).set w none).set j none
          by_cases hw : w = j
          · subst hw
            rw [List.set_set, List.set_set, ih]
          · rw [List.set_comm _ _ hw, List.set_comm _ _ hw, ih]
      exact key vs
    · have : j ∈ vs := by
        rcases List.mem_cons.mp h with h | h
        · exact absurd h hv
        · exact h
      rw [wipe_set this]
theorem tg_name {i : Nat} {x : D} {Q : List SD → Prop} (p : Q (δ.set i (.dat x))) : TgD F (gName i) [i] x δ Q := fun M σ H v R c r q =>
  q _ H _ p (c.set i r) (StepB.refl _ _) fun vs h => wipe_set (h i (by simp))
theorem tgs_nil {Q : List SD → Prop} (p : Q δ) : TgsD F gNil [] [] δ Q := fun M σ H v R c r q => by
  cases r
  exact ⟨rfl, q σ H δ p c (StepB.refl _ _) fun vs _ => rfl⟩
theorem tgs_cons {js ks : List Nat} {x : D} {xs : List D} {Q : List SD → Prop} (h : TgD F g js x δ fun δ' => TgsD F gs ks xs δ' Q) : TgsD F (gCons g gs) (js ++ ks) (x :: xs) δ Q := fun M σ H v R c r q => by
  cases r with
  | cons r1 r2 =>
    refine ⟨_, _, rfl, h M σ H _ _ c r1 fun σ1 H1 δ1 p1 c1 e1 w1 => ?_⟩
    refine p1 M σ1 H1 _ _ c1 (r2.mono (hd_step c e1)) fun σ2 H2 δ2 p2 c2 e2 w2 => ?_
    refine q σ2 H2 δ2 p2 c2 (e1.trans e2) fun vs h => ?_
    rw [w2 vs fun j hj => h j (List.mem_append_right _ hj), w1 vs fun j hj => h j (List.mem_append_left _ hj)]
theorem tg_tup {n : Nat} {js : List Nat} {xs : List D} {Q : List SD → Prop} (hn : xs.length = n) (h : TgsD F gs js xs δ Q) : TgD F (gTup F.K n gs) js (.tup xs) δ Q := fun M σ H v R c r q => by
  cases r with
  | tup h1 h2 => exact ⟨_, _, rfl, same_tup (same_hd M H) h1, by rw [h2.length, hn], h M σ H _ _ c h2 q⟩
/-! walks -/
theorem walkD_list {F : Fm} {a : Addr} {xs : List V} {ds : List D} (h : hd M H a = some (.lst xs)) (r : RepL F.K (hd M H) xs ds) : WalkD F (Itl F.K a) M H ds := by
  refine ⟨fun H => SqL F.K H a xs, YAt xs, by rw [← r.length]; exact walk_list, fun M2 H2 e _ => SqL.of (hd_of (e _ _ h)).2, fun M2 H2 i x H3 al e y => ?_⟩
  obtain ⟨rfl, y⟩ := y
  obtain ⟨d, h1, h2⟩ := r.getV y
  exact ⟨Same.refl _, d, h1, h2.mono e⟩
theorem it_list (h : Ev F te δ fun d => ∃ ds, d = .lst ds ∧ PX ds) : ItD F (iList F.K te) δ PX := fun M σ H R c q =>
  h M σ H _ c fun v d H1 p c1 e r => by
    obtain ⟨ds, rfl, p⟩ := p
    cases r with
    | lst h1 h2 => exact ⟨_, rfl, ⟨_, SqL.of (hd_of h1).2⟩, q _ ds H1 p c1 e (walkD_list h1 h2)⟩
theorem walkD_tup {F : Fm} {a : Addr} {xs : List V} {ds : List D} (h : SqT F.K (hd M H) a xs) (r : RepL F.K (hd M H) xs ds) : WalkD F (Itt F.K a) M H ds := by
  refine ⟨fun H => SqT F.K H a xs, YAt xs, by rw [← r.length]; exact walk_tup, fun M2 H2 e _ => same_tup (e.trans (same_hd M2 H2)) h, fun M2 H2 i x H3 al e y => ?_⟩
  obtain ⟨rfl, y⟩ := y
  obtain ⟨d, h1, h2⟩ := r.getV y
  exact ⟨Same.refl _, d, h1, h2.mono e⟩
theorem it_tup (h : Ev F te δ fun d => ∃ ds, d = .tup ds ∧ PX ds) : ItD F (iTup F.K te) δ PX := fun M σ H R c q =>
  h M σ H _ c fun v d H1 p c1 e r => by
    obtain ⟨ds, rfl, p⟩ := p
    cases r with
    | tup h1 h2 => exact ⟨_, rfl, ⟨_, same_tup (same_hd M H1) h1⟩, q _ ds H1 p c1 e (walkD_tup h1 h2)⟩
/-- lo, lo + 1, .. -/
def upto (lo : Int) (n : Nat) : List D := (List.range n).map fun i => .int (lo + (i : Nat))
theorem upto_len {lo : Int} {n : Nat} : (upto lo n).length = n := by simp [upto]
theorem upto_get {lo : Int} {n i : Nat} {d : D} (h : (upto lo n)[i]? = some d) : i < n ∧ d = .int (lo + (i : Nat)) := by
  have hi := (List.getElem?_eq_some_iff.mp h).1
  rw [upto_len] at hi
  refine ⟨hi, ?_⟩
  unfold upto at h
  rw [List.getElem?_map, List.getElem?_range hi] at h
  exact (Option.some.inj h).symm
theorem walkD_range {F : Fm} {lo : Int} {n : Nat} : WalkD F (Itr lo n) M H (upto lo n) := by
  refine ⟨fun _ => True, fun i H x H' => i < n ∧ H' = H ∧ x = .int (lo + i), ?_, fun _ _ _ _ => trivial, fun M2 H2 i x H3 al e y => ?_⟩
  · rw [upto_len]
    exact ⟨fun _ _ hi _ => hi, fun _ _ => Nat.le_refl _, fun _ _ _ _ hi _ y => ⟨hi, y⟩⟩
  · obtain ⟨hi, rfl, rfl⟩ := y
    refine ⟨Same.refl _, .int (lo + (i : Nat)), ?_, .int _⟩
    unfold upto
    rw [List.getElem?_map, List.getElem?_range hi]
    rfl
theorem it_range1 {ta : TA} (h : EvA F ta δ fun l => ∃ n : Int, l = [.int n] ∧ -1000000 ≤ n ∧ n ≤ 1000000 ∧ PX (upto 0 n.toNat)) : ItD F (iRng1 ta) δ PX := fun M σ H R c q =>
  h M σ H _ c fun vs ds H1 p c1 e r => by
    obtain ⟨n, rfl, h1, h2, p⟩ := p
    cases r with
    | cons r1 r2 =>
      cases r1
      cases r2
      exact ⟨n, rfl, by omega, by omega, q _ _ H1 p c1 e walkD_range⟩
theorem it_range2 {ta : TA} (h : EvA F ta δ fun l => ∃ m n : Int, l = [.int m, .int n] ∧ (-1000000 ≤ m ∧ m ≤ 1000000 ∧ -1000000 ≤ n ∧ n ≤ 1000000) ∧ PX (upto m (n - m).toNat)) : ItD F (iRng2 ta) δ PX := fun M σ H R c q =>
  h M σ H _ c fun vs ds H1 p c1 e r => by
    obtain ⟨m, n, rfl, h1, p⟩ := p
    cases r with
    | cons r1 r2 =>
      cases r1
      cases r2 with
      | cons r2 r3 =>
        cases r2
        cases r3
        exact ⟨m, n, rfl, by omega, q _ _ H1 p c1 e walkD_range⟩
/-- the signs of a text -/
def signs (z : Str) : List D := z.cps.toList.map fun c => .str ⟨#[c]⟩
theorem it_str (h : Ev F te δ fun d => ∃ z, d = .str z ∧ PX (signs z)) : ItD F (iStr te) δ PX := fun M σ H R c q =>
  h M σ H _ c fun v d H1 p c1 e r => by
    obtain ⟨z, rfl, p⟩ := p
    cases r
    refine ⟨z, rfl, q _ _ H1 p c1 e ⟨fun _ => True, fun i H v H' => H' = H ∧ ∃ c, z.cps[i]? = some c ∧ v = .str ⟨#[c]⟩, ?_, fun _ _ _ _ => trivial, fun M2 H2 i x H3 al e y => ?_⟩⟩
    · have := walk_str (z := z)
      have l : (signs z).length = z.cps.size := by simp [signs]
      rw [l]
      exact this
    · obtain ⟨rfl, c, h1, rfl⟩ := y
      refine ⟨Same.refl _, .str ⟨#[c]⟩, ?_, .str _⟩
      unfold signs
      rw [List.getElem?_map]
      have : z.cps.toList[i]? = some c := by simpa using h1
      rw [this]
      rfl
/-- pairs -/
def pairs (xs ys : List D) : List D := (xs.zip ys).map fun p => .tup [p.1, p.2]
theorem pair_ok {K : PySem.W.Frag} {M2 : Addr → Bool} {H2 : Hp} {T : Addr} {x y : V} {d e : D} (al : Al M2 H2) (hT : H2 T = none) (r1 : Rep K (hd M2 H2) x d) (r2 : Rep K (hd M2 H2) y e) : Rep K (hd M2 (upd H2 T (.tup [x, y]))) (.ref T) (.tup [d, e]) :=
  .tup (SqT.of (hd_new al hT)) (.cons (r1.mono (same_hdM (same_new hT))) (.cons (r2.mono (same_hdM (same_new hT))) .nil))
theorem walkD_zip {F : Fm} {a b : Addr} {xs ys : List V} {ds es : List D} (h : hd M H a = some (.lst xs)) (r : RepL F.K (hd M H) xs ds) (h' : hd M H b = some (.lst ys)) (r' : RepL F.K (hd M H) ys es) : WalkD F (Itz F.K a b) M H (pairs ds es) := by
  refine ⟨_, _, walk_zip (xs := xs) (ys := ys) ?_, fun M2 H2 e _ => ⟨SqL.of (hd_of (e _ _ h)).2, SqL.of (hd_of (e _ _ h')).2⟩, fun M2 H2 i x H3 al e y => ?_⟩
  · unfold pairs
    rw [List.length_map, List.length_zip, r.length, r'.length]
  · obtain ⟨T, v, w, rfl, hT, rfl, h1, h2⟩ := y
    obtain ⟨d, e1, r1⟩ := r.getV h1
    obtain ⟨f, e2, r2⟩ := r'.getV h2
    refine ⟨same_new hT, .tup [d, f], ?_, pair_ok al hT (r1.mono e) (r2.mono e)⟩
    unfold pairs
    rw [List.getElem?_map, List.getElem?_zip_eq_some (z := (d, f)) |>.mpr ⟨e1, e2⟩]
    rfl
theorem it_zipL {ta : TA} (h : EvA F ta δ fun l => ∃ xs ys, l = [.lst xs, .lst ys] ∧ PX (pairs xs ys)) : ItD F (iZip F.K ta) δ PX := fun M σ H R c q =>
  h M σ H _ c fun vs ds H1 p c1 e r => by
    obtain ⟨xs, ys, rfl, p⟩ := p
    cases r with
    | cons r1 r2 =>
      cases r2 with
      | cons r2 r3 =>
        cases r3
        cases r1 with
        | lst h1 h2 =>
          cases r2 with
          | lst h3 h4 => exact ⟨_, _, _, _, rfl, SqL.of (hd_of h1).2, SqL.of (hd_of h3).2, q _ _ H1 p c1 e (walkD_zip h1 h2 h3 h4)⟩
theorem walk_zipT {K : PySem.W.Frag} {a b : Addr} {xs ys : List V} {n : Nat} (hn : n = min xs.length ys.length) : Walk (ItzT K a b) n (fun H => SqT K H a xs ∧ SqT K H b ys) (YPair (fun i => xs[i]?) (fun i => ys[i]?)) := by
  subst hn
  refine ⟨fun i _ hi q => ?_, fun _ q => ⟨xs, ys, q.1, q.2, by omega⟩, fun i H v H' _ q y => ?_⟩
  · have h1 : i < xs.length := by omega
    have h2 : i < ys.length := by omega
    exact ⟨xs, ys, xs[i], ys[i], q.1, q.2, by simp [h1], by simp [h2]⟩
  · obtain ⟨T, x, z, h1, h2, h3, h4, h5⟩ := y
    exact ⟨T, x, z, h1, h2, h3, h4 xs q.1, h5 ys q.2⟩
theorem walkD_zipT {F : Fm} {a b : Addr} {xs ys : List V} {ds es : List D} (h : SqT F.K (hd M H) a xs) (r : RepL F.K (hd M H) xs ds) (h' : SqT F.K (hd M H) b ys) (r' : RepL F.K (hd M H) ys es) : WalkD F (ItzT F.K a b) M H (pairs ds es) := by
  refine ⟨_, _, walk_zipT (xs := xs) (ys := ys) ?_, fun M2 H2 e _ => ⟨same_tup (e.trans (same_hd M2 H2)) h, same_tup (e.trans (same_hd M2 H2)) h'⟩, fun M2 H2 i x H3 al e y => ?_⟩
  · unfold pairs
    rw [List.length_map, List.length_zip, r.length, r'.length]
  · obtain ⟨T, v, w, rfl, hT, rfl, h1, h2⟩ := y
    obtain ⟨d, e1, r1⟩ := r.getV h1
    obtain ⟨f, e2, r2⟩ := r'.getV h2
    refine ⟨same_new hT, .tup [d, f], ?_, pair_ok al hT (r1.mono e) (r2.mono e)⟩
    unfold pairs
    rw [List.getElem?_map, List.getElem?_zip_eq_some (z := (d, f)) |>.mpr ⟨e1, e2⟩]
    rfl
/-- of two lists, of two tuples -/
theorem it_zipA {ta : TA} (h : EvA F ta δ fun l => ∃ xs ys, (l = [.lst xs, .lst ys] ∨ l = [.tup xs, .tup ys]) ∧ PX (pairs xs ys)) : ItD F (iZipA F.K ta) δ PX := fun M σ H R c q =>
  h M σ H _ c fun vs ds H1 p c1 e r => by
    obtain ⟨xs, ys, hl, p⟩ := p
    rcases hl with rfl | rfl
    · cases r with
      | cons r1 r2 =>
        cases r2 with
        | cons r2 r3 =>
          cases r3
          cases r1 with
          | lst h1 h2 =>
            cases r2 with
            | lst h3 h4 => exact ⟨_, _, _, _, rfl, .inl ⟨SqL.of (hd_of h1).2, SqL.of (hd_of h3).2, q _ _ H1 p c1 e (walkD_zip h1 h2 h3 h4)⟩⟩
    · cases r with
      | cons r1 r2 =>
        cases r2 with
        | cons r2 r3 =>
          cases r3
          cases r1 with
          | tup h1 h2 =>
            cases r2 with
            | tup h3 h4 => exact ⟨_, _, _, _, rfl, .inr ⟨same_tup (same_hd M H1) h1, same_tup (same_hd M H1) h3, q _ _ H1 p c1 e (walkD_zipT h1 h2 h3 h4)⟩⟩
/-- enumerate -/
def numbered (xs : List D) : List D := (List.range xs.length).map fun i => .tup [.int (i : Nat), xs.getD i .non]
theorem it_enum {ta : TA} (h : EvA F ta δ fun l => ∃ xs, l = [.lst xs] ∧ PX (numbered xs)) : ItD F (iEnum F.K ta) δ PX := fun M σ H R c q =>
  h M σ H _ c fun vs ds H1 p c1 e r => by
    obtain ⟨xs, rfl, p⟩ := p
    cases r with
    | cons r1 r2 =>
      cases r2
      cases r1 with
      | @lst a vs _ h1 h2 =>
        refine ⟨_, _, rfl, SqL.of (hd_of h1).2, q _ _ H1 p c1 e ⟨fun H => SqL F.K H a vs, YPair (fun i => some (.int (i : Nat))) (fun i => vs[i]?), ?_, fun M2 H2 e _ => (SqL.of (hd_of (e _ _ h1)).2 : SqL F.K H2 a vs), fun M2 H2 i x H3 al e y => ?_⟩⟩
        · have := walk_enum (K := F.K) (a := a) (xs := vs)
          have l : (numbered xs).length = vs.length := by unfold numbered; rw [List.length_map, List.length_range, h2.length]
          rw [l]
          exact this
        · obtain ⟨T, v, w, rfl, hT, rfl, e1, e2⟩ := y
          cases e1
          obtain ⟨f, e3, r2⟩ := h2.getV e2
          refine ⟨same_new hT, .tup [.int (i : Nat), f], ?_, pair_ok al hT (.int _) (r2.mono e)⟩
          have hi := (List.getElem?_eq_some_iff.mp e3).1
          unfold numbered
          rw [List.getElem?_map, List.getElem?_range hi]
          show some (D.tup [.int (i : Nat), xs.getD i .non]) = _
          rw [show xs.getD i .non = f by simp [List.getD, e3]]
/-! for -/
theorem do_for {js : List Nat} (hw : ItD F wi δ PX) (I : List D → Nat → List SD → Prop) (h0 : ∀ xs, PX xs → I xs 0 δ)
    (hs : ∀ xs i x δ', PX xs → xs[i]? = some x → I xs i δ' → TgD F g js x δ' fun δ2 => Do F t δ2 { nx := I xs (i + 1), ct := I xs (i + 1), bk := R.nx, rt := R.rt })
    (he : ∀ xs δ', PX xs → I xs xs.length δ' → R.nx δ') : Do F (tFor wi g t) δ R := fun M σ H E c a b k d => by
  refine hw M σ H _ c fun J xs H1 px c1 e1 wd => ?_
  obtain ⟨G, Y, w, wg, wy⟩ := wd
  have s1 := hd_step c e1
  refine for_it w (fun i σ' H' => ∃ M' δ', I xs i δ' ∧ Ctx F M' σ' H' δ' ∧ Same (hd M H1) (hd M' H')) ⟨M, δ, h0 xs px, c1, Same.refl _⟩ (fun i σ' H' _ ⟨M', δ', _, c', s⟩ => wg M' H' s c'.fr) ?_ ?_
  · rintro i x σ' H' H2 hi ⟨M', δ', hI, c', s⟩ y
    obtain ⟨s2, dx, h1, r⟩ := wy M' H' i x H2 c'.al s y
    have c2 := c'.same s2
    refine hs xs i dx δ' px h1 hI M' σ' H2 x _ c2 r fun σ3 H3 δ3 p3 c3 e3 _ => ?_
    have s3 : Same (hd M H1) (hd M' H3) := s.trans ((same_hdM s2).trans (hd_step c2 e3))
    refine p3 M' σ3 H3 _ c3 (fun M4 σ4 H4 δ4 p4 c4 s4 => ⟨M4, δ4, p4, c4, s3.trans s4⟩) (fun v y M4 σ4 H4 δ4 p4 c4 s4 r4 => b v y M4 σ4 H4 δ4 p4 c4 ((s1.trans s3).trans s4) r4)
      (fun M4 σ4 H4 δ4 p4 c4 s4 => a M4 σ4 H4 δ4 p4 c4 ((s1.trans s3).trans s4)) (fun M4 σ4 H4 δ4 p4 c4 s4 => ⟨M4, δ4, p4, c4, s3.trans s4⟩)
  · rintro σ' H' ⟨M', δ', hI, c', s⟩
    exact a M' σ' H' δ' (he xs δ' px hI) c' (s1.trans s)
end

/-! ### a list of one's own -/
def hid (M : Addr → Bool) (p : Addr) : Addr → Bool := fun a => if a = p then true else M a
theorem hid_same {M : Addr → Bool} {p : Addr} : hid M p p = true := if_pos rfl
theorem hid_ne {M : Addr → Bool} {p a : Addr} (h : a ≠ p) : hid M p a = M a := if_neg h
theorem hid_le {M : Addr → Bool} {p : Addr} : ∀ a, M a = true → hid M p a = true := fun a h => by
  unfold hid
  split
  · rfl
  · exact h
def shw (M : Addr → Bool) (p : Addr) : Addr → Bool := fun a => if a = p then false else M a
theorem shw_same {M : Addr → Bool} {p : Addr} : shw M p p = false := if_pos rfl
theorem shw_ne {M : Addr → Bool} {p a : Addr} (h : a ≠ p) : shw M p a = M a := if_neg h
theorem shw_le {M : Addr → Bool} {p : Addr} : ∀ a, shw M p a = true → M a = true := fun a h => by
  by_cases e : a = p
  · subst e
    rw [shw_same] at h
    cases h
  · rw [shw_ne e] at h
    exact h
theorem hd_upd {M : Addr → Bool} {H : Hp} {p : Addr} {o : HO} (h : M p = true) : hd M (upd H p o) = hd M H := by
  funext a
  unfold hd
  by_cases e : a = p
  · subst e
    rw [h, if_pos rfl, if_pos rfl]
  · rw [upd_ne e]
section
variable {F : Fm} {M : Addr → Bool} {σ : L2.St} {H H' : Hp} {δ : List SD}
theorem set_key {i j : Nat} {x y : SD} (hx : (δ.set i y)[j]? = some x) : (i = j ∧ x = y ∧ i < δ.length) ∨ (i ≠ j ∧ δ[j]? = some x) := by
  by_cases hj : i = j
  · subst hj
    rw [List.getElem?_set] at hx
    rw [if_pos rfl] at hx
    split at hx
    · exact .inl ⟨rfl, (Option.some.inj hx).symm, by assumption⟩
    · cases hx
  · rw [List.getElem?_set_ne hj] at hx
    exact .inr ⟨hj, hx⟩
/-- p, which no own slot is, is shown no more | shown again -/
theorem Ctx.hide (c : Ctx F M σ H δ) {p : Addr} (hp : H p = none) {o : HO} : Ctx F (hid M p) σ (upd H p o) δ := by
  have s : Same (hd M H) (hd (hid M p) (upd H p o)) := fun a u e => by
    obtain ⟨m, h⟩ := hd_of e
    have n : a ≠ p := ne_of_none h hp
    exact hd_at (by rw [hid_ne n]; exact m) (by rw [upd_ne n]; exact h)
  refine ⟨fun a m => ?_, c.al0, fun a m => hid_le a (c.m0 a m), fun a u n h => (same_new hp) a u (c.fr a u n h), ⟨fun b z => (c.bg.1 b z).imp id fun ⟨h1, h2⟩ => ⟨h1.mono (same_new hp), h2⟩, fun a h => (c.bg.2 a h).imp id fun ⟨ps, e⟩ => ⟨ps, same_new hp _ _ e⟩⟩, c.ln, fun i x hx => ?_, c.dj, c.oh⟩
  · by_cases e : a = p
    · subst e
      exact ⟨o, upd_same⟩
    · rw [hid_ne e] at m
      obtain ⟨u, h⟩ := c.al a m
      exact ⟨u, by rw [upd_ne e]; exact h⟩
  · obtain ⟨y, h1, h2⟩ := c.sl i x hx
    refine ⟨y, h1, ?_⟩
    cases x with
    | un => trivial
    | dat d =>
      obtain ⟨v, e, r⟩ := h2
      exact ⟨v, e, r.mono s⟩
    | own q ds =>
      obtain ⟨e, m, vs, h3, r⟩ := h2
      exact ⟨e, hid_le q m, vs, same_new hp _ _ h3, r.mono s⟩
    | bag => exact h2
    | sq ds =>
      obtain ⟨q, vs, g1, g2, g3, g4⟩ := h2
      exact ⟨q, vs, g1, g2, g3, g4.mono s⟩
    | sl ds =>
      obtain ⟨q, vs, g1, g2, g3, g4⟩ := h2
      exact ⟨q, vs, g1, g2, g3, g4.mono s⟩
theorem Ctx.show' (c : Ctx F (hid M p) σ H δ) (hp : M p = false) (h0 : F.H0 p = none) (no : ∀ (j : Nat) (es : OD), δ[j]? ≠ some (.own p es)) : Ctx F M σ H δ := by
  have n0 : ∀ a, F.M0 a = true → a ≠ p := fun a m e => by
    subst e
    obtain ⟨o, h⟩ := c.al0 _ m
    rw [h0] at h
    cases h
  refine ⟨fun a m => c.al a (hid_le a m), c.al0, fun a m => by rw [← hid_ne (M := M) (n0 a m)]; exact c.m0 a m, c.fr, c.bg, c.ln, fun i x hx => ?_, c.dj, c.oh⟩
  obtain ⟨y, h1, h2⟩ := c.sl i x hx
  refine ⟨y, h1, ?_⟩
  cases x with
  | un => trivial
  | dat d =>
    obtain ⟨v, e, r⟩ := h2
    exact ⟨v, e, r.mono (same_hd_le hid_le)⟩
  | own q ds =>
    obtain ⟨e, m, vs, h3, r⟩ := h2
    have n : q ≠ p := fun z => by
      subst z
      exact no i ds hx
    rw [hid_ne n] at m
    exact ⟨e, m, vs, h3, r.mono (same_hd_le hid_le)⟩
  | bag => exact h2
  | sq ds =>
    obtain ⟨q, vs, g1, g2, g3, g4⟩ := h2
    exact ⟨q, vs, g1, g2, g3, g4.mono (same_hd_le hid_le)⟩
  | sl ds =>
    obtain ⟨q, vs, g1, g2, g3, g4⟩ := h2
    exact ⟨q, vs, g1, g2, g3, g4.mono (same_hd_le hid_le)⟩
/-- a slot takes a list of its own -/
theorem Ctx.setOwn (c : Ctx F M σ H δ) (i : Nat) {p : Addr} {vs : HO} {ds : OD} (m : M p = true) (h : H p = some vs) (r : RepO F.K (hd M H) vs ds) (h0 : F.H0 p = none) (hb : ¬ F.mv p)
    (no : ∀ (j : Nat) (es : OD), i ≠ j → δ[j]? ≠ some (.own p es)) : Ctx F M (σ.set i (some (.ref p))) H (δ.set i (.own p ds)) := by
  refine ⟨c.al, c.al0, c.m0, c.fr, c.bg, by rw [List.length_set, List.length_set, c.ln], fun j x hx => ?_, fun j k q es fs h1 h2 => ?_, fun j q es h => ?_⟩
  · rcases set_key hx with ⟨rfl, rfl, hl⟩ | ⟨hj, hx⟩
    · exact ⟨_, by rw [List.getElem?_set_self (by rw [c.ln]; exact hl)], rfl, m, vs, h, r⟩
    · rw [List.getElem?_set_ne hj]
      exact c.sl j x hx
  · rcases set_key h1 with ⟨rfl, z, _⟩ | ⟨hj, h1⟩
    · cases z
      rcases set_key h2 with ⟨rfl, _, _⟩ | ⟨hk, h2⟩
      · rfl
      · exact absurd h2 (no k _ hk)
    · rcases set_key h2 with ⟨rfl, z, _⟩ | ⟨hk, h2⟩
      · cases z
        exact absurd h1 (no j _ hj)
      · exact c.dj j k q es fs h1 h2
  · rcases set_key h with ⟨rfl, z, _⟩ | ⟨hj, h⟩
    · cases z
      exact ⟨h0, hb⟩
    · exact c.oh j q es h
/-- a hidden list that no slot owns is changed -/
theorem Ctx.poke (c : Ctx F M σ H δ) {p : Addr} {xs ys : HO} (m : M p = true) (hp : H p = some xs) (h0 : F.H0 p = none) (hb : ¬ F.mv p) (no : ∀ (j : Nat) (es : OD), δ[j]? ≠ some (.own p es)) : Ctx F M σ (upd H p ys) δ := by
  have hm : hd M (upd H p ys) = hd M H := hd_upd m
  have bg : ∀ b, F.B = some b → F.M0 b = true ∧ BagAt (upd H p ys) b F.C0 ∧ ∃ o, F.H0 F.C0 = some o := fun b z => by
    obtain ⟨g0, g1, g2⟩ := c.bg.1 b z
    obtain ⟨ns, k, z1, z2, z3, q1, q2, q3, q4⟩ := g1
    have n1 : b ≠ p := fun e => hb (.inl (e ▸ z))
    have n2 : F.C0 ≠ p := fun e => by
      rw [← e] at h0
      obtain ⟨o, g3⟩ := g2
      rw [h0] at g3
      cases g3
    exact ⟨g0, ⟨ns, k, z1, z2, z3, by rw [upd_ne n1]; exact q1, q2, by rw [upd_ne n2]; exact q3, q4⟩, g2⟩
  refine ⟨fun a q => ?_, c.al0, c.m0, fun a o n h => ?_, ⟨bg, fun a h => (c.bg.2 a h).imp id fun ⟨ps, e⟩ => ⟨ps, by rw [upd_ne (fun z : a = p => hb (.inr (z ▸ h)))]; exact e⟩⟩, c.ln, fun j x hx => ?_, c.dj, c.oh⟩
  · by_cases e : a = p
    · subst e
      exact ⟨_, upd_same⟩
    · rw [upd_ne e]
      exact c.al a q
  · have n2 : a ≠ p := fun e => by
      subst e
      rw [h0] at h
      cases h
    rw [upd_ne n2]
    exact c.fr a o n h
  · obtain ⟨y, g1, g2⟩ := c.sl j x hx
    refine ⟨y, g1, ?_⟩
    cases x with
    | un => trivial
    | dat d =>
      obtain ⟨v, e, r⟩ := g2
      exact ⟨v, e, by rw [hm]; exact r⟩
    | own q fs =>
      obtain ⟨e, mq, us, g3, r⟩ := g2
      have n : q ≠ p := fun z => by
        subst z
        exact no j _ hx
      exact ⟨e, mq, us, by rw [upd_ne n]; exact g3, by rw [hm]; exact r⟩
    | bag => exact g2
    | sq ds =>
      obtain ⟨q, vs, k1, k2, k3, k4⟩ := g2
      exact ⟨q, vs, k1, k2, k3, by rw [hm]; exact k4⟩
    | sl ds =>
      obtain ⟨q, vs, k1, k2, k3, k4⟩ := g2
      exact ⟨q, vs, k1, k2, k3, by rw [hm]; exact k4⟩
/-- the own list is changed -/
theorem Ctx.put (c : Ctx F M σ H δ) {i : Nat} {p : Addr} {ds es : OD} {vs : HO} (hi : δ[i]? = some (.own p ds)) (r : RepO F.K (hd M H) vs es) : Ctx F M σ (upd H p vs) (δ.set i (.own p es)) := by
  obtain ⟨y, h1, hy, m, ws, h3, r0⟩ := c.sl i _ hi
  subst hy
  obtain ⟨h0, hb⟩ := c.oh i p ds hi
  have hm : hd M (upd H p vs) = hd M H := hd_upd m
  have bg : ∀ b, F.B = some b → F.M0 b = true ∧ BagAt (upd H p vs) b F.C0 ∧ ∃ o, F.H0 F.C0 = some o := fun b z => by
    obtain ⟨g0, g1, g2⟩ := c.bg.1 b z
    obtain ⟨ns, k, z1, z2, z3, q1, q2, q3, q4⟩ := g1
    have n1 : b ≠ p := fun e => hb (.inl (e ▸ z))
    have n2 : F.C0 ≠ p := fun e => by
      rw [← e] at h0
      obtain ⟨o, g3⟩ := g2
      rw [h0] at g3
      cases g3
    exact ⟨g0, ⟨ns, k, z1, z2, z3, by rw [upd_ne n1]; exact q1, q2, by rw [upd_ne n2]; exact q3, q4⟩, g2⟩
  refine ⟨fun a q => ?_, c.al0, c.m0, fun a o n h => ?_, ⟨bg, fun a h => (c.bg.2 a h).imp id fun ⟨ps, e⟩ => ⟨ps, by rw [upd_ne (fun z : a = p => hb (.inr (z ▸ h)))]; exact e⟩⟩, by rw [List.length_set, c.ln], fun j x hx => ?_, fun j k q e1 e2 h1 h2 => ?_, fun j q e1 h => ?_⟩
  · by_cases e : a = p
    · subst e
      exact ⟨_, upd_same⟩
    · rw [upd_ne e]
      exact c.al a q
  · have n2 : a ≠ p := fun e => by
      subst e
      rw [h0] at h
      cases h
    rw [upd_ne n2]
    exact c.fr a o n h
  · rcases set_key hx with ⟨rfl, rfl, hl⟩ | ⟨hj, hx2⟩
    · exact ⟨_, h1, rfl, m, vs, upd_same, by rw [hm]; exact r⟩
    · obtain ⟨y, g1, g2⟩ := c.sl j x hx2
      refine ⟨y, g1, ?_⟩
      cases x with
      | un => trivial
      | dat d =>
        obtain ⟨v, e, r⟩ := g2
        exact ⟨v, e, by rw [hm]; exact r⟩
      | own q fs =>
        obtain ⟨e, mq, us, g3, r⟩ := g2
        have n : q ≠ p := fun z => by
          subst z
          exact hj (c.dj i j _ _ _ hi hx2)
        exact ⟨e, mq, us, by rw [upd_ne n]; exact g3, by rw [hm]; exact r⟩
      | bag => exact g2
      | sq ds =>
        obtain ⟨q, vs, k1, k2, k3, k4⟩ := g2
        exact ⟨q, vs, k1, k2, k3, by rw [hm]; exact k4⟩
      | sl ds =>
        obtain ⟨q, vs, k1, k2, k3, k4⟩ := g2
        exact ⟨q, vs, k1, k2, k3, by rw [hm]; exact k4⟩
  · rcases set_key h1 with ⟨rfl, z, _⟩ | ⟨hj, h1⟩
    · cases z
      rcases set_key h2 with ⟨rfl, _, _⟩ | ⟨hk, h2⟩
      · rfl
      · exact c.dj _ _ _ _ _ hi h2
    · rcases set_key h2 with ⟨rfl, z, _⟩ | ⟨hk, h2⟩
      · cases z
        exact c.dj _ _ _ _ _ h1 hi
      · exact c.dj j k q e1 e2 h1 h2
  · rcases set_key h with ⟨rfl, z, _⟩ | ⟨hj, h⟩
    · cases z
      exact ⟨h0, hb⟩
    · exact c.oh j q e1 h
/-- the own list is looked at as data from here on -/
theorem Ctx.freeze (c : Ctx F M σ H δ) {i : Nat} {p : Addr} {ds : OD} (hi : δ[i]? = some (.own p ds)) : Ctx F (shw M p) σ H (δ.set i (.dat ds.d)) := by
  obtain ⟨y, h1, hy, m, ws, h3, r0⟩ := c.sl i _ hi
  subst hy
  obtain ⟨h0, hb⟩ := c.oh i p ds hi
  have s : Same (hd M H) (hd (shw M p) H) := same_hd_le shw_le
  have n0 : ∀ a, F.M0 a = true → a ≠ p := fun a mm e => by
    subst e
    obtain ⟨o, h⟩ := c.al0 _ mm
    rw [h0] at h
    cases h
  refine ⟨fun a q => c.al a (shw_le a q), c.al0, fun a q => by rw [shw_ne (n0 a q)]; exact c.m0 a q, c.fr, c.bg, by rw [List.length_set, c.ln], fun j x hx => ?_, fun j k q e1 e2 h1 h2 => ?_, fun j q e1 h => ?_⟩
  · rcases set_key hx with ⟨rfl, rfl, hl⟩ | ⟨hj, hx2⟩
    · exact ⟨_, h1, _, rfl, (r0.mono s).rep (hd_at shw_same h3)⟩
    · obtain ⟨y, g1, g2⟩ := c.sl j x hx2
      refine ⟨y, g1, ?_⟩
      cases x with
      | un => trivial
      | dat d =>
        obtain ⟨v, e, r⟩ := g2
        exact ⟨v, e, r.mono s⟩
      | own q fs =>
        obtain ⟨e, mq, us, g3, r⟩ := g2
        have n : q ≠ p := fun z => by
          subst z
          exact hj (c.dj i j _ _ _ hi hx2)
        exact ⟨e, by rw [shw_ne n]; exact mq, us, g3, r.mono s⟩
      | bag => exact g2
      | sq ds =>
        obtain ⟨q, vs, k1, k2, k3, k4⟩ := g2
        exact ⟨q, vs, k1, k2, k3, k4.mono s⟩
      | sl ds =>
        obtain ⟨q, vs, k1, k2, k3, k4⟩ := g2
        exact ⟨q, vs, k1, k2, k3, k4.mono s⟩
  · rcases set_key h1 with ⟨rfl, z, _⟩ | ⟨hj, h1⟩
    · cases z
    rcases set_key h2 with ⟨rfl, z, _⟩ | ⟨hk, h2⟩
    · cases z
    exact c.dj j k q e1 e2 h1 h2
  · rcases set_key h with ⟨rfl, z, _⟩ | ⟨hj, h⟩
    · cases z
    exact c.oh j q e1 h
end
/-- an expression that makes a new list -/
def EvN (F : Fm) (te : TE) (δ : List SD) (P : List D → Prop) : Prop := ∀ M σ H (Q : VK), Ctx F M σ H δ →
  (∀ p vs ds H', P ds → Ctx F (hid M p) σ H' δ → H p = none → F.H0 p = none → ¬ F.mv p → (∀ (j : Nat) (es : OD), δ[j]? ≠ some (.own p es)) → StepB F.mv H H' → H' p = some (.lst vs) → RepL F.K (hd (hid M p) H') vs ds → Q (.ref p) H') → te σ H Q
section
variable {F : Fm} {δ : List SD} {ta tb tc te : TE} {t u ts : TS} {tt tu : TT} {P : List D → Prop} {PX : List D → Prop} {R : PD} {M : Addr → Bool} {σ : L2.St} {H H' : Hp} {g : TG} {gs : TGs} {wi : TI}
theorem Ctx.nob (c : Ctx F M σ H δ) {p : Addr} (hp : H p = none) : ¬ F.mv p := fun z => by
  rcases z with z | z
  case inr =>
    obtain ⟨_, ps, h⟩ := c.bg.2 p z
    rw [hp] at h
    cases h
  obtain ⟨_, h, _⟩ := c.bg.1 p z
  obtain ⟨o, h⟩ := h.at
  rw [hp] at h
  cases h
theorem Ctx.h0 (c : Ctx F M σ H δ) {p : Addr} (hp : H p = none) : F.H0 p = none := by
  cases q : F.H0 p with
  | none => rfl
  | some o =>
    have := c.fr p o (c.nob hp) q
    rw [hp] at this
    cases this
theorem Ctx.nown (c : Ctx F M σ H δ) {p : Addr} (hp : H p = none) : ∀ (j : Nat) (es : OD), δ[j]? ≠ some (.own p es) := fun j es h => by
  obtain ⟨s, _, _, _, vs, h3, _⟩ := c.sl j _ h
  rw [hp] at h3
  cases h3
theorem al_none {p : Addr} (al : Al M H) (hp : H p = none) : M p = false := by
  cases e : M p with
  | true =>
    obtain ⟨u, h⟩ := al p e
    rw [hp] at h
    cases h
  | false => rfl
theorem EvN.ev {P : D → Prop} (h : EvN F te δ fun ds => P (.lst ds)) : Ev F te δ P := fun M σ H Q c q =>
  h M σ H Q c fun p vs ds H' pd c' hp h0 hb no e hl r => by
    have m := al_none c.al hp
    have s : Same (hd (hid M p) H') (hd M H') := same_hd_le hid_le
    exact q _ (.lst ds) H' pd (c'.show' m h0 no) e (.lst (hd_at m hl) (r.mono s))
theorem en_lst {ta : TA} (h : EvA F ta δ fun ds => ds.length ≤ 100000 ∧ P ds) : EvN F (tLst ta) δ P := fun M σ H Q c q =>
  h M σ H _ c fun vs ds H1 p1 c1 e1 r1 => ⟨by rw [r1.length]; exact sz_of p1.1, fun p hp => by
    have hp0 : H p = none := by
      cases z : H p with
      | none => rfl
      | some o =>
        have := e1 p o (c1.nob hp) z
        rw [hp] at this
        cases this
    have c2 := c1.hide hp (o := .lst vs)
    refine q p vs ds _ p1.2 c2 hp0 (c1.h0 hp) (c1.nob hp) (c1.nown hp) (e1.trans (StepB.of (same_new hp))) upd_same (r1.mono fun a u e => ?_)
    obtain ⟨m, h⟩ := hd_of e
    have n : a ≠ p := ne_of_none h hp
    exact hd_at (by rw [hid_ne n]; exact m) (by rw [upd_ne n]; exact h)⟩
/-- a slot takes a new list as its own -/
theorem do_own {i : Nat} (h : EvN F te δ fun ds => ∀ p, R.nx (δ.set i (.own p (.lst ds)))) : Do F (tAsg te (gName i)) δ R := fun M σ H E c a b k d =>
  h M σ H _ c fun p vs ds H' pd c' hp h0 hb no e hl r => a (hid M p) _ H' _ (pd p) (c'.setOwn i hid_same hl (.lst r) h0 hb fun j es _ => no j es) fun x o hx => by
    obtain ⟨m, h1⟩ := hd_of hx
    have n : x ≠ p := ne_of_none h1 hp
    refine hd_at (by rw [hid_ne n]; exact m) (e x o (fun z => ?_) h1)
    have := c.m0 x (z.elim (fun z => (c.bg.1 x z).1) fun z => (c.bg.2 x z).1)
    rw [m] at this
    cases this
theorem do_freeze {i : Nat} {p : Addr} {ds : OD} (hi : δ[i]? = some (.own p ds)) (h : Do F t (δ.set i (.dat ds.d)) R) : Do F t δ R := fun M σ H E c a b k d => by
  have s : Same (hd M H) (hd (shw M p) H) := same_hd_le shw_le
  exact h (shw M p) σ H E (c.freeze hi) (fun M2 σ2 H2 δ2 p2 c2 s2 => a M2 σ2 H2 δ2 p2 c2 (s.trans s2)) (fun v x M2 σ2 H2 δ2 p2 c2 s2 => b v x M2 σ2 H2 δ2 p2 c2 (s.trans s2))
    (fun M2 σ2 H2 δ2 p2 c2 s2 => k M2 σ2 H2 δ2 p2 c2 (s.trans s2)) (fun M2 σ2 H2 δ2 p2 c2 s2 => d M2 σ2 H2 δ2 p2 c2 (s.trans s2))
theorem do_append {i : Nat} {p : Addr} {ds : List D} (hi : δ[i]? = some (.own p (.lst ds))) (hl : ds.length < 100000) (h : Ev F te δ fun x => R.nx (δ.set i (.own p (.lst (ds ++ [x]))))) :
    Do F (tDrop (tBM F.K "list" rAppend (tVar i) (tCons te tNil))) δ R := fun M σ H E c a b k d => by
  obtain ⟨y, h1, hy, m, ho, h3, r0⟩ := c.sl i _ hi
  subst hy
  cases r0 with
  | @lst ws _ r0 =>
  refine ⟨_, h1, .inl ⟨rfl, ws, SqL.of h3⟩, ?_⟩
  refine h M σ H _ c fun v x H1 px c1 e r => ?_
  have h4 := e p _ (c.oh i p _ hi).2 h3
  have s := hd_step c e
  refine ⟨p, ws, v, rfl, rfl, h4, by rw [r0.length]; exact sz_lt hl, ?_⟩
  refine a M σ _ _ px (c1.put hi (.lst ((r0.mono s).append (RepL.one r)))) ?_
  rw [hd_upd m]
  exact s
theorem do_clear {i : Nat} {p : Addr} {ds : List D} (hi : δ[i]? = some (.own p (.lst ds))) (h : R.nx (δ.set i (.own p (.lst [])))) : Do F (tDrop (tBM0 F.K "list" rClear (tVar i))) δ R := fun M σ H E c a b k d => by
  obtain ⟨y, h1, hy, m, ho, h3, r0⟩ := c.sl i _ hi
  subst hy
  cases r0 with
  | @lst ws _ r0 =>
  refine ⟨_, h1, .inl ⟨rfl, ws, SqL.of h3⟩, p, ws, rfl, rfl, h3, ?_⟩
  refine a M σ _ _ h (c.put hi (.lst .nil)) ?_
  rw [hd_upd m]
  exact Same.refl _
/-! comprehensions -/
theorem en_lc {js vs : List Nat} (hw : ItD F wi δ PX) (hl : ∀ xs, PX xs → xs.length ≤ 100000) (hj : ∀ j ∈ js, j ∈ vs) (I : List D → Nat → List D → Prop) (h0 : ∀ xs, PX xs → I xs 0 [])
    (hs : ∀ xs i x acc, PX xs → xs[i]? = some x → I xs i acc → TgD F g js x (wipeD δ vs) fun δ' => EvT F tt δ' fun b => (b = true → Ev F te δ' fun y => I xs (i + 1) (acc ++ [y])) ∧ (b = false → I xs (i + 1) acc))
    (he : ∀ xs ds, PX xs → I xs xs.length ds → P ds) : EvN F (tLc wi g tt te vs) δ P := fun M σ H Q c q => by
  refine hw M σ H _ c fun J xs H1 px c1 e1 wd => ?_
  intro A hA
  obtain ⟨G, Y, w, wg, wy⟩ := wd
  have hA0 : H A = none := by
    cases z : H A with
    | none => rfl
    | some o =>
      have := e1 A o (c1.nob hA) z
      rw [hA] at this
      cases this
  have c2 := c1.hide hA (o := .lst [])
  have mA := al_none c1.al hA
  have s0 : Same (hd M H1) (hd (hid M A) (upd H1 A (.lst []))) := fun a u e => by
    obtain ⟨m, h⟩ := hd_of e
    have n : a ≠ A := ne_of_none h hA
    exact hd_at (by rw [hid_ne n]; exact m) (by rw [upd_ne n]; exact h)
  have k0 : StepB F.mv H (upd H1 A (.lst [])) := e1.trans (StepB.of (same_new hA))
  have hlen := hl xs px
  -- the wiped slots are wiped once and for all
  have ww : ∀ σ2 : L2.St, wipe σ2 vs = wipe (wipe σ vs) vs → wipe σ2 vs = wipe σ vs := fun σ2 h => by
    rw [h]
    have key : ∀ (ws : List Nat) (τ : L2.St), (∀ j ∈ ws, j ∈ vs) → wipe (wipe τ ws) vs = wipe τ vs := by
      intro ws
      induction ws with
      | nil => intro τ _; rfl
      | cons j js ih =>
        intro τ hjs
        show wipe ((wipe τ js).set j none) vs = wipe τ vs
        rw [wipe_set (hjs j (by simp)), ih τ fun k hk => hjs k (List.mem_cons_of_mem _ hk)]
    exact key vs σ fun _ h => h
  refine lc_it w (fun i H' => ∃ ws acc, I xs i acc ∧ acc.length ≤ i ∧ Ctx F (hid M A) σ H' δ ∧ StepB F.mv H H' ∧ Same (hd M H1) (hd (hid M A) H') ∧ H' A = some (.lst ws) ∧ RepL F.K (hd (hid M A) H') ws acc)
    ⟨[], [], h0 xs px, Nat.le_refl _, c2, k0, s0, upd_same, .nil⟩ (fun i H' _ ⟨_, _, _, _, c', _, s, _⟩ => wg (hid M A) H' s c'.fr) ?_ ?_
  · rintro i x H' H2 hi ⟨ws, acc, hI, ha, c', k', s, hAl, r⟩ y
    obtain ⟨s2, dx, h1, rx⟩ := wy (hid M A) H' i x H2 c'.al s y
    have c2 := c'.same s2
    refine hs xs i dx acc px h1 hI (hid M A) (wipe σ vs) H2 x _ (c2.wipe vs) rx fun σ3 H3 δ3 p3 c3 e3 w3 => ⟨ww σ3 (w3 vs hj), ?_⟩
    refine p3 (hid M A) σ3 H3 _ c3 fun b H4 pb c4 e4 => ?_
    have k4 : StepB F.mv H2 H4 := e3.trans e4
    have c24 : Ctx F (hid M A) σ H4 δ := c2.stepG k4 c4.bg
    have s24 : Same (hd (hid M A) H2) (hd (hid M A) H4) := hd_step c2 k4
    have hA2 : H2 A = some (.lst ws) := s2 _ _ hAl
    have hA4 : H4 A = some (.lst ws) := k4 A _ (c1.nob hA) hA2
    have k' : StepB F.mv H H2 := k'.trans (StepB.of s2)
    have s' : Same (hd M H1) (hd (hid M A) H2) := s.trans (same_hdM s2)
    have r' : RepL F.K (hd (hid M A) H2) ws acc := r.mono (same_hdM s2)
    cases b with
    | false =>
      rw [if_neg Bool.false_ne_true]
      exact ⟨ws, acc, pb.2 rfl, Nat.le_succ_of_le ha, c24, k'.trans k4, s'.trans s24, hA4, r'.mono s24⟩
    | true =>
      rw [if_pos rfl]
      refine pb.1 rfl (hid M A) σ3 H4 _ c4 fun v d H5 pd c5 e5 r5 => ?_
      have k5 : StepB F.mv H2 H5 := k4.trans e5
      have c25 : Ctx F (hid M A) σ H5 δ := c2.stepG k5 c5.bg
      have s25 : Same (hd (hid M A) H2) (hd (hid M A) H5) := hd_step c2 k5
      have hA5 : H5 A = some (.lst ws) := k5 A _ (c1.nob hA) hA2
      have hm : hd (hid M A) (upd H5 A (.lst (ws ++ [v]))) = hd (hid M A) H5 := hd_upd hid_same
      have hal : acc.length < 100000 := by omega
      refine ⟨ws, hA5, by rw [r.length]; exact sz_lt hal, ws ++ [v], acc ++ [d], pd, by simp only [List.length_append, List.length_cons, List.length_nil]; omega, ?_, ?_, ?_, upd_same, ?_⟩
      · refine c25.poke hid_same hA5 (c1.h0 hA) (c1.nob hA) (c1.nown hA)
      · intro a o n h
        by_cases e : a = A
        · subst e
          rw [hA0] at h
          cases h
        · rw [upd_ne e]
          exact k5 a o n (k' a o n h)
      · rw [hm]
        exact s'.trans s25
      · rw [hm]
        exact (r'.mono s25).append (RepL.one r5)
  · rintro H' ⟨ws, acc, hI, ha, c', k', s, hAl, r⟩
    exact q A ws acc H' (he xs acc px hI) c' hA0 (c1.h0 hA) (c1.nob hA) (c1.nown hA) k' hAl r
end
end Pf

namespace Pf
open PySem L2 RZ

/-! ### calls of defs -/
/-- a promise that speaks of data alone; one of a def whose first argument is the bag -/
def spD (K : PySem.W.Frag) (Pre : List D → Prop) (Post : List D → D → Prop) : Sp := fun vs H Q _ => ∃ (M : Addr → Bool) (ds : List D), Al M H ∧ RepL K (hd M H) vs ds ∧ Pre ds ∧
  ∀ v d H', Post ds d → Same H H' → Rep K (hd M H') v d → Q v H'
def spB (K : PySem.W.Frag) (Pre : List D → Prop) (Post : List D → D → Prop) : Sp := fun vs H Q _ => ∃ (M : Addr → Bool) (b c : Addr) (ws : List V) (ds : List D), vs = .ref b :: ws ∧ Al M H ∧ M b = true ∧ BagAt H b c ∧ RepL K (hd M H) ws ds ∧ Pre ds ∧
  ∀ v d H', Post ds d → StepB (· = b) H H' → BagAt H' b c → Rep K (hd M H') v d → Q v H'
section
variable {F : Fm} {δ : List SD} {ta : TA} {te : TE} {P : D → Prop} {Pre : List D → Prop} {Post : List D → D → Prop} {E : XK}
theorem ev_call (h : EvA F ta δ fun ds => Pre ds ∧ ∀ d, Post ds d → P d) : Ev F (tCall (spD F.K Pre Post) [] E ta) δ P := fun M σ H Q c q =>
  h M σ H _ c fun vs ds H1 p c1 e1 r => by
    rw [List.append_nil]
    exact ⟨M, ds, c1.al, r, p.1, fun v d H2 pd s r2 => q v d H2 (p.2 d pd) (c1.same s) (e1.trans (StepB.of s)) r2⟩
/-- with defaults behind -/
theorem ev_callD {dvs : List V} {dds : List D} (hd' : ∀ H, RepL F.K H dvs dds) (h : EvA F ta δ fun ds => Pre (ds ++ dds) ∧ ∀ d, Post (ds ++ dds) d → P d) : Ev F (tCall (spD F.K Pre Post) dvs E ta) δ P := fun M σ H Q c q =>
  h M σ H _ c fun vs ds H1 p c1 e1 r =>
    ⟨M, ds ++ dds, c1.al, r.append (hd' _), p.1, fun v d H2 pd s r2 => q v d H2 (p.2 d pd) (c1.same s) (e1.trans (StepB.of s)) r2⟩
theorem ev_callB {i : Nat} {b : Addr} (hb : F.B = some b) (hi : δ[i]? = some .bag) (h : EvA F ta δ fun ds => Pre ds ∧ ∀ d, Post ds d → P d) : Ev F (tCall (spB F.K Pre Post) [] E (tCons (tVar i) ta)) δ P := fun M σ H Q c q => by
  obtain ⟨s, h1, b', h2, h3⟩ := c.sl i _ hi
  subst h3
  rw [hb] at h2
  cases h2
  refine ⟨_, h1, ?_⟩
  refine h M σ H _ c fun vs ds H1 p c1 e1 r => ?_
  show spB F.K Pre Post (V.ref b :: vs ++ []) H1 Q E
  rw [List.append_nil]
  obtain ⟨g0, g1, g2⟩ := c1.bg.1 b hb
  refine ⟨M, b, F.C0, vs, ds, rfl, c1.al, c1.m0 b g0, g1, r, p.1, fun v d H2 pd s ba r2 => ?_⟩
  have s' : StepB F.mv H1 H2 := fun a o n h => s a o (fun z => n (.inl (by rw [hb, z]))) h
  exact q v d H2 (p.2 d pd) (c1.stepG s' ⟨fun b2 z => by
    rw [hb] at z
    cases z
    exact ⟨g0, ba, g2⟩, fun a h => by
    obtain ⟨z1, ps, z2⟩ := c1.bg.2 a h
    refine ⟨z1, ps, s a _ (fun z => ?_) z2⟩
    obtain ⟨_, _, _, _, _, g3, _⟩ := g1
    have z : a = b := z
    rw [z, g3] at z2
    cases z2⟩) (e1.trans s') r2
end
/-! ### into a def's body -/
def slots (N : List Str) (ds : List D) : List SD := ds.map .dat ++ List.replicate (N.length - ds.length) .un
def slotsB (N : List Str) (ds : List D) : List SD := .bag :: (ds.map .dat ++ List.replicate (N.length - (ds.length + 1)) .un)
theorem sl_base {K : PySem.W.Frag} {F : Fm} {M : Addr → Bool} {H : Hp} (hK : F.K = K) : ∀ {vs : List V} {ds : List D} (n : Nat), RepL K (hd M H) vs ds →
    ∀ (i : Nat) (x : SD), (ds.map SD.dat ++ List.replicate n .un)[i]? = some x → ∃ s, (vs.map some ++ List.replicate n none)[i]? = some s ∧ SlotOk F M H s x
  | [], [], n, .nil, i, x, h => by
    simp only [List.map_nil, List.nil_append, List.getElem?_replicate] at h ⊢
    split at h
    · rename_i hi
      cases h
      exact ⟨none, by rw [if_pos hi], trivial⟩
    · cases h
  | v :: vs, d :: ds, n, .cons r rs, 0, x, h => by
    have e : SD.dat d = x := by simpa using h
    subst e
    exact ⟨some v, rfl, v, rfl, by rw [hK]; exact r⟩
  | v :: vs, d :: ds, n, .cons r rs, i + 1, x, h => sl_base hK n rs i x (by simpa using h)
theorem no_own {ds : List D} {n : Nat} {i : Nat} {p : Addr} {es : OD} : (ds.map SD.dat ++ List.replicate n .un)[i]? ≠ some (.own p es) := fun h => by
  have := List.mem_of_getElem? h
  rcases List.mem_append.mp this with h | h
  · obtain ⟨d, _, e⟩ := List.mem_map.mp h
    cases e
  · have := List.eq_of_mem_replicate h
    cases this
section
variable {K : PySem.W.Frag} {N : List Str} {vs : List V} {H : Hp} {Q : VK} {E : XK} {t : TS} {Pre : List D → Prop} {Post : List D → D → Prop}
theorem enterD (hs : spD K Pre Post vs H Q E) (hb : ∀ (M : Addr → Bool) (ds : List D), Pre ds → ds.length = vs.length → Do ⟨K, none, M, H, E, 0, []⟩ t (slots N ds) { nx := fun _ => Post ds .non, rt := Post ds }) :
    t { nx := fun _ H' => Q .non H', rt := Q } (L2.start N vs) H := by
  obtain ⟨M, ds, al, r, pre, q⟩ := hs
  have hl := r.length
  have c : Ctx ⟨K, none, M, H, E, 0, []⟩ M (L2.start N vs) H (slots N ds) := by
    refine ⟨al, al, fun _ h => h, StepB.refl _ _, ⟨fun b z => (nomatch z), fun a h => (nomatch h)⟩, ?_, ?_, fun i j p es fs h1 h2 => absurd h1 no_own, fun i p es h => absurd h no_own⟩
    · unfold L2.start slots
      rw [List.length_append, List.length_append, List.length_map, List.length_map, List.length_replicate, List.length_replicate, hl]
    · unfold L2.start slots
      rw [hl]
      exact sl_base rfl _ r
  refine hb M ds pre hl.symm M _ H _ c (fun M' σ' H' δ' p c' s => ?_) (fun v d M' σ' H' δ' p c' s r' => ?_) (fun _ _ _ _ p => p.elim) (fun _ _ _ _ p => p.elim)
  · exact q _ _ H' p (fun a o h => c'.fr a o (mv_none rfl rfl a) h) .non
  · exact q v d H' p (fun a o h => c'.fr a o (mv_none rfl rfl a) h) (r'.mono (same_hd_le fun a h => c'.m0 a h))
theorem enterB (hs : spB K Pre Post vs H Q E) (hb : ∀ (M : Addr → Bool) (b c : Addr) (ds : List D), Pre ds → ds.length + 1 = vs.length → Do ⟨K, some b, M, H, E, c, []⟩ t (slotsB N ds) { nx := fun _ => Post ds .non, rt := Post ds }) :
    t { nx := fun _ H' => Q .non H', rt := Q } (L2.start N vs) H := by
  obtain ⟨M, b, cc, ws, ds, rfl, al, mb, ba, r, pre, q⟩ := hs
  have hl := r.length
  have hc : ∃ o, H cc = some o := by
    obtain ⟨ns, i, z, s, t, _, _, h3, _⟩ := ba
    exact ⟨_, h3⟩
  have c : Ctx ⟨K, some b, M, H, E, cc, []⟩ M (L2.start N (.ref b :: ws)) H (slotsB N ds) := by
    refine ⟨al, al, fun _ h => h, StepB.refl _ _, ⟨fun b z => ?_, fun a h => (nomatch h)⟩, ?_, fun i x h => ?_, fun i j p es fs h1 h2 => ?_, fun i p es h => ?_⟩
    · cases z
      exact ⟨mb, ba, hc⟩
    · unfold L2.start slotsB
      simp only [List.length_append, List.length_cons, List.length_map, List.length_replicate, hl]
      omega
    · unfold L2.start
      unfold slotsB at h
      cases i with
      | zero =>
        have e : SD.bag = x := by simpa using h
        subst e
        exact ⟨_, rfl, b, rfl, rfl⟩
      | succ i =>
        have h' : (ds.map SD.dat ++ List.replicate (N.length - (ds.length + 1)) .un)[i]? = some x := by simpa using h
        rw [List.length_cons, hl]
        exact sl_base rfl _ r i x h'
    · unfold slotsB at h1
      cases i with
      | zero => cases (show SD.bag = SD.own p es by simpa using h1)
      | succ i => exact absurd (show (ds.map SD.dat ++ List.replicate (N.length - (ds.length + 1)) .un)[i]? = some (.own p es) by simpa using h1) no_own
    · unfold slotsB at h
      cases i with
      | zero => cases (show SD.bag = SD.own p es by simpa using h)
      | succ i => exact absurd (show (ds.map SD.dat ++ List.replicate (N.length - (ds.length + 1)) .un)[i]? = some (.own p es) by simpa using h) no_own
  refine hb M b cc ds pre (by rw [List.length_cons, hl]) M _ H _ c (fun M' σ' H' δ' p c' s => ?_) (fun v d M' σ' H' δ' p c' s r' => ?_) (fun _ _ _ _ p => p.elim) (fun _ _ _ _ p => p.elim)
  · exact q _ _ H' p (fun a o n h => c'.fr a o (mv_bag rfl rfl n) h) (c'.bg.1 b rfl).2.1 .non
  · exact q v d H' p (fun a o n h => c'.fr a o (mv_bag rfl rfl n) h) (c'.bg.1 b rfl).2.1 (r'.mono (same_hd_le fun a h => c'.m0 a h))
end
theorem spD_len {K : PySem.W.Frag} {Pre : List D → Prop} {Post : List D → D → Prop} {n : Nat} (h : ∀ ds, Pre ds → ds.length = n) : ∀ vs H Q E, spD K Pre Post vs H Q E → vs.length = n := fun vs H Q E ⟨M, ds, _, r, p, _⟩ => by rw [r.length, h ds p]
theorem spB_len {K : PySem.W.Frag} {Pre : List D → Prop} {Post : List D → D → Prop} {n : Nat} (h : ∀ ds, Pre ds → ds.length + 1 = n) : ∀ vs H Q E, spB K Pre Post vs H Q E → vs.length = n := fun vs H Q E ⟨M, b, c, ws, ds, e, _, _, _, r, p, _⟩ => by
  subst e
  rw [List.length_cons, r.length, h ds p]

/-! ### operations -/
section
variable {K : PySem.W.Frag} {P : D → Prop} {i j : Int} {x y : D}
theorem od_eq_int (p : P (.bl (decide (i = j)))) : OpD K rEq (.int i) (.int j) P := fun M H v w Q al r1 r2 q => by
  cases r1
  cases r2
  exact ⟨rfl, q _ _ H (show P (.bl (decide (V.int i = V.int j))) by rw [show decide (V.int i = V.int j) = decide (i = j) by rw [dec_int, Bool.beq_eq_decide_eq]]; exact p) (Same.refl H) (.bl _)⟩
theorem od_ne_int (p : P (.bl (!decide (i = j)))) : OpD K rNe (.int i) (.int j) P := fun M H v w Q al r1 r2 q => by
  cases r1
  cases r2
  exact ⟨rfl, q _ _ H (show P (.bl (!decide (V.int i = V.int j))) by rw [show decide (V.int i = V.int j) = decide (i = j) by rw [dec_int, Bool.beq_eq_decide_eq]]; exact p) (Same.refl H) (.bl _)⟩
theorem od_eq_bl {a b : Bool} (p : P (.bl (decide (a = b)))) : OpD K rEq (.bl a) (.bl b) P := fun M H v w Q al r1 r2 q => by
  cases r1
  cases r2
  exact ⟨rfl, q _ _ H (show P (.bl (decide (V.bl a = V.bl b))) by rw [show decide (V.bl a = V.bl b) = decide (a = b) by rw [dec_bl, Bool.beq_eq_decide_eq]]; exact p) (Same.refl H) (.bl _)⟩
theorem od_ne_bl {a b : Bool} (p : P (.bl (!decide (a = b)))) : OpD K rNe (.bl a) (.bl b) P := fun M H v w Q al r1 r2 q => by
  cases r1
  cases r2
  exact ⟨rfl, q _ _ H (show P (.bl (!decide (V.bl a = V.bl b))) by rw [show decide (V.bl a = V.bl b) = decide (a = b) by rw [dec_bl, Bool.beq_eq_decide_eq]]; exact p) (Same.refl H) (.bl _)⟩
theorem od_eq_str {a b : Str} (p : P (.bl (decide (a = b)))) : OpD K rEq (.str a) (.str b) P := fun M H v w Q al r1 r2 q => by
  cases r1
  cases r2
  exact ⟨rfl, q _ _ H (show P (.bl (decide (V.str a = V.str b))) by rw [show decide (V.str a = V.str b) = decide (a = b) by rw [dec_str, Bool.beq_eq_decide_eq]]; exact p) (Same.refl H) (.bl _)⟩
theorem od_ne_str {a b : Str} (p : P (.bl (!decide (a = b)))) : OpD K rNe (.str a) (.str b) P := fun M H v w Q al r1 r2 q => by
  cases r1
  cases r2
  exact ⟨rfl, q _ _ H (show P (.bl (!decide (V.str a = V.str b))) by rw [show decide (V.str a = V.str b) = decide (a = b) by rw [dec_str, Bool.beq_eq_decide_eq]]; exact p) (Same.refl H) (.bl _)⟩
/-- x is None -/
def isNon : D → Bool | .non => true | _ => false
theorem rep_non {H : Hp} {v : V} (r : Rep K H v x) : decide (v = .non) = isNon x := by
  cases r <;> rfl
theorem ud_isN (p : P (.bl (isNon x))) : OpD K (fun x y H Q => y = .non ∧ Q (.bl (decide (x = .non))) H) x .non P := fun M H v w Q al r1 r2 q => by
  have e := rep_non r1
  cases r2
  exact ⟨rfl, by rw [e]; exact q _ _ H p (Same.refl H) (.bl _)⟩
theorem ud_notN (p : P (.bl (!isNon x))) : OpD K (fun x y H Q => y = .non ∧ Q (.bl (!decide (x = .non))) H) x .non P := fun M H v w Q al r1 r2 q => by
  have e := rep_non r1
  cases r2
  exact ⟨rfl, by rw [e]; exact q _ _ H p (Same.refl H) (.bl _)⟩
theorem repL_at {H : Hp} {vs : List V} {ds : List D} {d : D} (r : RepL K H vs ds) (h : atI ds i = some d) : ∃ v, atI vs i = some v ∧ Rep K H v d := by
  unfold atI at h ⊢
  rw [r.length]
  cases e : ixN ds.length i with
  | none => rw [e] at h; cases h
  | some k =>
    rw [e] at h
    exact r.get h
theorem od_ixL {ds : List D} {d : D} (h : atI ds i = some d) (p : P d) : OpD K (rIxL K) (.lst ds) (.int i) P := fun M H v w Q al r1 r2 q => by
  cases r1 with
  | lst h1 h2 =>
    cases r2
    obtain ⟨v, e, r⟩ := repL_at h2 h
    exact ⟨_, _, i, v, rfl, rfl, SqL.of (hd_of h1).2, e, q v d H p (Same.refl H) r⟩
theorem od_ixT {ds : List D} {d : D} (h : atI ds i = some d) (p : P d) : OpD K (rIxT K) (.tup ds) (.int i) P := fun M H v w Q al r1 r2 q => by
  cases r1 with
  | tup h1 h2 =>
    cases r2
    obtain ⟨v, e, r⟩ := repL_at h2 h
    exact ⟨_, _, i, v, rfl, rfl, same_tup (same_hd M H) h1, e, q v d H p (Same.refl H) r⟩
theorem od_ixS {z : Str} {c : Nat} (hz : z.length ≤ 100000) (h : atI z.cps.toList i = some c) (p : P (.str ⟨#[c]⟩)) : OpD K rIxS (.str z) (.int i) P := fun M H v w Q al r1 r2 q => by
  cases r1
  cases r2
  exact ⟨z, i, c, rfl, rfl, sz_of hz, h, q _ _ H p (Same.refl H) (.str _)⟩
theorem atI_nat' {α : Type} {xs : List α} {i : Int} (h0 : 0 ≤ i) (h : i.toNat < xs.length) : atI xs i = some (xs[i.toNat]) := by
  obtain ⟨n, rfl⟩ : ∃ n : Nat, i = (n : Int) := ⟨i.toNat, by omega⟩
  exact atI_nat (by simp)
theorem od_addS {a b : Str} (h : a.length + b.length ≤ 100000) (p : P (.str (a ++ b))) : OpD K (fun x y H Q => ∃ i j, x = .str i ∧ y = .str j ∧ i.length + j.length ≤ sizeLine ∧ Q (.str (i ++ j)) H) (.str a) (.str b) P := fun M H v w Q al r1 r2 q => by
  cases r1
  cases r2
  exact ⟨a, b, rfl, rfl, sz_of h, q _ _ H p (Same.refl H) (.str _)⟩
theorem od_leS {a b : Str} (p : P (.bl (!decide (b.cps.toList < a.cps.toList)))) : OpD K (fun x y H Q => ∃ i j, x = .str i ∧ y = .str j ∧ Q (.bl (!decide (j.cps.toList < i.cps.toList))) H) (.str a) (.str b) P := fun M H v w Q al r1 r2 q => by
  cases r1
  cases r2
  exact ⟨a, b, rfl, rfl, q _ _ H p (Same.refl H) (.bl _)⟩
theorem od_inSign {c : Nat} {z : Str} (p : P (.bl (decide (c ∈ z.cps.toList)))) : OpD K (fun x y H Q => ∃ (c : Nat) (z : Str), x = .str ⟨#[c]⟩ ∧ y = .str z ∧ Q (.bl (decide (c ∈ z.cps.toList))) H) (.str ⟨#[c]⟩) (.str z) P := fun M H v w Q al r1 r2 q => by
  cases r1
  cases r2
  exact ⟨c, z, rfl, rfl, q _ _ H p (Same.refl H) (.bl _)⟩
theorem od_cat {xs ys : List D} (h : xs.length + ys.length ≤ 100000) (p : P (.lst (xs ++ ys))) : OpD K rCat (.lst xs) (.lst ys) P := fun M H v w Q al r1 r2 q => by
  cases r1 with
  | lst h1 h2 =>
    cases r2 with
    | lst h3 h4 =>
      refine ⟨_, _, _, _, rfl, rfl, (hd_of h1).2, (hd_of h3).2, by rw [h2.length, h4.length]; exact sz_of h, fun p' hp => ?_⟩
      exact q _ _ _ p (same_new hp) (.lst (hd_new al hp) ((h2.append h4).mono (same_hdM (same_new hp))))
theorem repL_rep {H : Hp} {vs : List V} {ds : List D} (r : RepL K H vs ds) : ∀ n : Nat, RepL K H (List.replicate n vs).flatten (List.replicate n ds).flatten
  | 0 => .nil
  | n + 1 => by
    rw [List.replicate_succ, List.replicate_succ, List.flatten_cons, List.flatten_cons]
    exact r.append (repL_rep r n)
theorem od_rep {xs : List D} {k : Int} (h0 : 0 ≤ k) (h : k ≤ 100000) (hz : xs.length * k.toNat ≤ 100000) (p : P (.lst (List.replicate k.toNat xs).flatten)) : OpD K rRep (.lst xs) (.int k) P := fun M H v w Q al r1 r2 q => by
  cases r1 with
  | lst h1 h2 =>
    cases r2
    refine ⟨_, k, _, rfl, rfl, (hd_of h1).2, by omega, by omega, by rw [h2.length]; exact sz_of hz, fun p' hp => ?_⟩
    exact q _ _ _ p (same_new hp) (.lst (hd_new al hp) ((repL_rep h2 _).mono (same_hdM (same_new hp))))
/-! slices -/
def cutD (xs : List D) (lo hi : Option Int) : List D := (xs.drop (HT.sIx xs.length 0 lo)).take (HT.sIx xs.length xs.length hi - HT.sIx xs.length 0 lo)
theorem cutD_length {xs : List D} {lo hi : Option Int} : (cutD xs lo hi).length ≤ xs.length := by
  unfold cutD
  rw [List.length_take, List.length_drop]
  omega
theorem repL_cut {H : Hp} {vs : List V} {ds : List D} (r : RepL K H vs ds) (lo hi : Option Int) : RepL K H (cutV vs lo hi) (cutD ds lo hi) := by
  unfold cutV cutD
  rw [r.length]
  exact (r.drop _).take _
end
def EvO (F : Fm) (to : TO) (δ : List SD) (P : Option Int → Prop) : Prop := ∀ M σ H (Q : Option Int → Hp → Prop), Ctx F M σ H δ →
  (∀ o H', P o → Ctx F M σ H' δ → StepB F.mv H H' → Q o H') → to σ H Q
section
variable {F : Fm} {δ : List SD} {ta tb tc te : TE} {tl th : TO} {tt tu : TT} {P : D → Prop} {PL : List D → Prop} {PO : Option Int → Prop}
theorem eo_none (p : PO none) : EvO F tNoPart δ PO := fun M σ H Q c q => q _ H p c (StepB.refl _ _)
theorem eo_some (h : Ev F te δ fun d => ∃ i, d = .int i ∧ PO (some i)) : EvO F (tPart te) δ PO := fun M σ H Q c q =>
  h M σ H _ c fun v d H1 p c1 e r => by
    obtain ⟨i, rfl, p⟩ := p
    cases r
    exact ⟨i, rfl, q _ H1 p c1 e⟩
theorem ev_slS (h : Ev F te δ fun d => EvO F tl δ fun lo => EvO F th δ fun hi => ∃ z, d = .str z ∧ z.length ≤ 100000 ∧ P (.str (cutS z lo hi))) : Ev F (tSl rSlS te tl th) δ P := fun M σ H Q c q =>
  h M σ H _ c fun v d H1 p c1 e1 r => p M σ H1 _ c1 fun lo H2 p2 c2 e2 => p2 M σ H2 _ c2 fun hi H3 p3 c3 e3 => by
    obtain ⟨z, rfl, hz, p⟩ := p3
    cases r
    exact ⟨z, rfl, sz_of hz, q _ _ H3 p c3 ((e1.trans e2).trans e3) (.str _)⟩
/-- a slice of a list: a new one -/
theorem en_slL (h : Ev F te δ fun d => EvO F tl δ fun lo => EvO F th δ fun hi => ∃ xs, d = .lst xs ∧ PL (cutD xs lo hi)) : EvN F (tSl (rSlL F.K) te tl th) δ PL := fun M σ H Q c q =>
  h M σ H _ c fun v d H1 p c1 e1 r => p M σ H1 _ c1 fun lo H2 p2 c2 e2 => p2 M σ H2 _ c2 fun hi H3 p3 c3 e3 => by
    obtain ⟨xs, rfl, pz⟩ := p3
    have r3 := r.mono ((hd_step c1 e2).trans (hd_step c2 e3))
    cases r3 with
    | lst h1 h2 =>
      refine ⟨_, _, rfl, SqL.of (hd_of h1).2, fun a ha => ?_⟩
      have k := (e1.trans e2).trans e3
      have ha0 : H a = none := by
        cases z : H a with
        | none => rfl
        | some o =>
          have := k a o (c3.nob ha) z
          rw [ha] at this
          cases this
      refine q a _ _ _ pz (c3.hide ha) ha0 (c3.h0 ha) (c3.nob ha) (c3.nown ha) (k.trans (StepB.of (same_new ha))) upd_same ((repL_cut h2 lo hi).mono fun b u e => ?_)
      obtain ⟨m, h⟩ := hd_of e
      have n : b ≠ a := ne_of_none h ha
      exact hd_at (by rw [hid_ne n]; exact m) (by rw [upd_ne n]; exact h)
/-- a slice of a tuple that is not the whole -/
theorem ev_slT (h : Ev F te δ fun d => EvO F tl δ fun lo => EvO F th δ fun hi => ∃ xs, d = .tup xs ∧ ¬ (HT.sIx xs.length 0 lo = 0 ∧ HT.sIx xs.length xs.length hi = xs.length) ∧ P (.tup (cutD xs lo hi))) : Ev F (tSl (rSlT F.K) te tl th) δ P := fun M σ H Q c q =>
  h M σ H _ c fun v d H1 p c1 e1 r => p M σ H1 _ c1 fun lo H2 p2 c2 e2 => p2 M σ H2 _ c2 fun hi H3 p3 c3 e3 => by
    obtain ⟨xs, rfl, hn, p⟩ := p3
    have r3 := r.mono ((hd_step c1 e2).trans (hd_step c2 e3))
    cases r3 with
    | tup h1 h2 =>
      refine ⟨_, _, rfl, same_tup (same_hd M H3) h1, by rw [h2.length]; exact hn, fun a ha => ?_⟩
      exact q _ _ _ p (c3.same (same_new ha)) (((e1.trans e2).trans e3).trans (StepB.of (same_new ha))) (.tup (SqT.of (hd_new c3.al ha)) ((repL_cut h2 lo hi).mono (same_hdM (same_new ha))))
end
/-! ### calls of built-ins -/
/-- the built-in type of data -/
def tyName : D → Option String
  | .non => some "NoneType" | .bl _ => some "bool" | .int _ => some "int" | .str _ => some "str" | .lst _ => some "list" | .tup _ => some "tuple" | .dic _ => some "dict" | _ => none
def tyNames : List String := ["NoneType", "bool", "int", "str", "list", "tuple", "dict"]
def tyAsk : List String := ["bool", "int", "str", "list", "tuple", "dict"]
/-- isinstance by names -/
def isTy (a n : String) : Bool := a == n || (a == "bool" && n == "int")
theorem kit_all : (tyNames.all fun a => tyAsk.all fun n => decide (kitB a n = some (isTy a n))) = true := by decide +kernel
theorem kit_isTy {a n : String} (ha : a ∈ tyNames) (hn : n ∈ tyAsk) : kitB a n = some (isTy a n) :=
  of_decide_eq_true (List.all_eq_true.mp (List.all_eq_true.mp kit_all a ha) n hn)
theorem tyName_mem {d : D} {a : String} (h : tyName d = some a) : a ∈ tyNames := by
  cases d <;> simp only [tyName, Option.some.injEq, reduceCtorEq] at h <;> (subst h; decide)
theorem tyX_of {K : PySem.W.Frag} {H : Hp} {v : V} {d : D} {a : String} (r : Rep K H v d) (h : tyName d = some a) : TyX K H v (.type a) := by
  cases r with
  | non => cases h; exact .base .non
  | bl b => cases h; exact .base (.bl b)
  | int i => cases h; exact .base (.int i)
  | str x => cases h; exact .base (.str x)
  | lst h1 _ => cases h; exact .base (.lst h1)
  | tup h1 _ =>
    cases h
    rcases h1 with (h1 | ⟨o, h1⟩) | ⟨o, its, n, h1, h2, _⟩
    · exact .base (.tup h1)
    · exact .fTuple h1
    · exact .kTuple h1 h2
  | dic h1 _ => cases h; exact .base (.dK h1)
  | ins h1 _ => cases h
  | ty n => cases h
  | adr a => cases h
  | exc h1 h2 _ => cases h
theorem TyX.mono {K : PySem.W.Frag} {M : Addr → Bool} {H : Hp} {v : V} {d : D} {a : String} (r : Rep K (hd M H) v d) (h : tyName d = some a) : TyX K H v (.type a) := tyX_of (r.mono (same_hd M H)) h
/-- isinstance of a type and of a tuple of types, on data -/
def isD (d : D) (n : String) : Bool := match tyName d with | some a => isTy a n | none => false
section
variable {K : PySem.W.Frag} {P : D → Prop} {i j : Int} {x y : D} {n : String}
theorem cd_isi {a : String} (hx : tyName x = some a) (hn : n ∈ tyAsk) (p : P (.bl (isD x n))) : CallD K (rIsi K) [x, .ty n] P := fun M H vs Q al r q => by
  cases r with
  | cons r1 r2 =>
    cases r2 with
    | cons r2 r3 =>
      cases r3
      cases r2
      have e : isD x n = isTy a n := by unfold isD; rw [hx]
      exact ⟨_, _, .type a, .type n, isTy a n, rfl, .ty n, TyX.mono r1 hx, kit_ty (kit_isTy (tyName_mem hx) hn), by rw [← e]; exact q _ _ H p (Same.refl H) (.bl _)⟩
/-- the length of data -/
def lenD : D → Option Nat
  | .str z => some z.length | .lst xs => some xs.length | .tup xs => some xs.length | _ => none
theorem cd_len {k : Nat} (h : lenD x = some k) (hz : k ≤ 100000) (p : P (.int (k : Int))) : CallD K (fun xs H Q => ∃ x n, xs = [x] ∧ LenV K x H n ∧ Q (.int (n : Nat)) H) [x] P := fun M H vs Q al r q => by
  cases r with
  | cons r1 r2 =>
    cases r2
    refine ⟨_, k, rfl, ?_, q _ _ H p (Same.refl H) (.int _)⟩
    cases r1 with
    | str z => cases h; exact ⟨sz_of hz, rfl⟩
    | lst h1 h2 => cases h; exact .inl ⟨_, SqL.of (hd_of h1).2, h2.length.symm⟩
    | tup h1 h2 => cases h; exact .inr ⟨_, same_tup (same_hd M H) h1, h2.length.symm⟩
    | _ => cases h
def blD (bs : List Bool) : List D := bs.map .bl
theorem repL_bl {H : Hp} : ∀ {vs : List V} {bs : List Bool}, RepL K H vs (blD bs) → vs = bs.map V.bl
  | _, [], .nil => rfl
  | _, b :: bs, .cons (.bl _) r => by rw [List.map_cons, repL_bl (bs := bs) r]
theorem cd_all {bs : List Bool} (p : P (.bl (bs.all id))) : CallD K (rAll K) [.lst (blD bs)] P := fun M H vs Q al r q => by
  cases r with
  | cons r1 r2 =>
    cases r2
    cases r1 with
    | lst h1 h2 =>
      have e := repL_bl h2
      subst e
      exact ⟨_, bs, rfl, SqL.of (hd_of h1).2, q _ _ H p (Same.refl H) (.bl _)⟩
theorem cd_any {bs : List Bool} (p : P (.bl (bs.any id))) : CallD K (rAny K) [.lst (blD bs)] P := fun M H vs Q al r q => by
  cases r with
  | cons r1 r2 =>
    cases r2
    cases r1 with
    | lst h1 h2 =>
      have e := repL_bl h2
      subst e
      exact ⟨_, bs, rfl, SqL.of (hd_of h1).2, q _ _ H p (Same.refl H) (.bl _)⟩
theorem cd_intI {r : List V → Hp → VK → Prop} (hr : ∀ xs H Q, (∃ i, xs = [V.int i] ∧ Q (.int i) H) → r xs H Q) (p : P (.int i)) : CallD K r [.int i] P := fun M H vs Q al r1 q => by
  cases r1 with
  | cons r1 r2 =>
    cases r2
    cases r1
    exact hr _ _ _ ⟨i, rfl, q _ _ H p (Same.refl H) (.int _)⟩
end
end Pf

namespace PySem
open AutoSeq1 (wpAny_loadPart')
/-! enumerate of a tuple -/
theorem enumT_new (l : Addr) (items : Array Value) (n : Nat) (dct : Option Addr) (sl : Array (Option Value)) :
    Meets (Builtin.«enumerate.__new__» ⟨[.type "enumerate", .ref l], []⟩) (fun _ R s => s.heap.get? l = some { cls := .type "tuple", dict := dct, data := .seq items n, slots := sl } ∧
      R (.ok (.ret (.ref (s.heap.push { cls := .type "tuple_iterator", data := .fields #[.ref l, .int 0 0] }).objs.size)))
        { s with heap := (s.heap.push { cls := .type "tuple_iterator", data := .fields #[.ref l, .int 0 0] }).push { cls := .type "enumerate", data := .fields #[.none, .bool false, .ref s.heap.objs.size, rawInt 0, .none, .none] } }) :=
  .of_wp fun prog w A R s h => by
    obtain ⟨hp, g, d, tk, os⟩ := s; obtain ⟨hl, h⟩ := h
    have hsub := sub_enumerate
    have hL : Heap.IsTuple (Shared.heap ⟨hp, g, d, tk, os⟩) l items := ⟨_, hl, rfl, n, rfl⟩
    wp_walk using wpAny_loadPart' hl
    refine wpAny_stack_any fun st => wpAny_pure ?_
    split
    · rename_i c _ _ _ _ _
      cases (c == Value.type "enumerate")
      · wp_walk using wpAny_loadPart' hl, wpAny_pyIter_tuple hL
        exact ⟨_, rfl, h⟩
      · wp_walk using wpAny_loadPart' hl, wpAny_pyIter_tuple hL
        exact ⟨_, rfl, h⟩
    · wp_walk using wpAny_loadPart' hl, wpAny_pyIter_tuple hL
      exact ⟨_, rfl, h⟩
theorem enumT_call {prog : Program} {w : World} {A : Around} {E : Value → Shared → Prop} {s : Shared} {l : Addr} {items : Array Value} {Q : Value → Shared → Prop} (hL : s.heap.IsTuple l items)
    (h : ∀ h', IsEnum h' (s.heap.objs.size + 1) s.heap.objs.size 0 .none → h'.IsTupleIter s.heap.objs.size l 0 → h'.objs.size = s.heap.objs.size + 2 →
      (∀ b o, s.heap.get? b = some o → h'.get? b = some o) → Q (.ref (s.heap.objs.size + 1)) { s with heap := h' }) :
    wpAny (model prog w) A (call (.type "enumerate") [.ref l]) Q E s := by
  obtain ⟨⟨c, dct, dt, sl⟩, hl, hc, n, hd⟩ := hL
  replace hc : c = .type "tuple" := hc
  replace hd : dt = .seq items n := hd
  subst hc hd
  refine callType_new F.called_enumerate (by decide) (F.typeCall_enumerate_1 _) (F.newCall_enumerate_1 _) (fun obj => F.args_object_init_2 obj _) F.entry_enumerate_new
    (enumT_new l items n dct sl) ⟨hl, ?_⟩
  have hz : (s.heap.push { cls := .type "tuple_iterator", data := .fields #[.ref l, .int 0 0] }).objs.size = s.heap.objs.size + 1 := Heap.size_push ..
  show _ ∧ _
  rw [hz]
  have he : IsEnum ((s.heap.push { cls := .type "tuple_iterator", data := .fields #[.ref l, .int 0 0] }).push
      { cls := .type "enumerate", data := .fields #[.none, .bool false, .ref s.heap.objs.size, rawInt 0, .none, .none] }) (s.heap.objs.size + 1) s.heap.objs.size 0 .none := by
    have := Heap.get?_push_size (s.heap.push { cls := .type "tuple_iterator", data := .fields #[.ref l, .int 0 0] })
      (o := { cls := .type "enumerate", data := .fields #[.none, .bool false, .ref s.heap.objs.size, rawInt 0, .none, .none] }) rfl
    rw [hz] at this; exact this
  refine ⟨⟨_, he, rfl⟩, h _ he ⟨_, Heap.get?_push_of_some _ (Heap.get?_push_size _ rfl), rfl, rfl⟩ (by rw [Heap.size_push, hz]) fun b o x => Heap.get?_push_of_some _ (Heap.get?_push_of_some _ x)⟩
theorem enumT_end {prog : Program} {w : World} {A : Around} {E : Value → Shared → Prop} {s : Shared} {e it l : Addr} {i : Nat} {items : Array Value} {old : Value} {Q : Option Value → Shared → Prop} (hh : A.handled = none)
    (he : IsEnum s.heap e it i old) (hit : s.heap.IsTupleIter it l i) (hl : s.heap.IsTuple l items) (hx : items[i]? = none)
    (hQ : ∀ h', Heap.ExtBut it s.heap h' → Q none { s with heap := h' }) : wpAny (model prog w) A (pyNext (.ref e)) Q E s := by
  have hT : s.TypeIs (.ref e) "enumerate" := ⟨_, he, rfl⟩
  unfold pyNext
  refine wpAny_bind (wpAny_attempt (wpAny_callSpecial?_slot (name := Str.ofString "__next__") hT F.slot_enumerate_next
    (wpAny_call_entry F.slot_enumerate_next hT F.entry_enumerate_next ?_ (F.args_enumerate_next_1 _))))
  show wpAny _ _ (field (.ref e) 2 >>= _) _ _ _
  refine wpAny_bind (wpAny_field he rfl (x := .ref it) rfl ?_)
  refine wpAny_bind (wpAny_nextOf_tuple_end hh hit hl hx fun h' x he' hx' => ?_)
  obtain ⟨o, ho, hc⟩ := hx'
  refine wpAny_bind (wpAny_isInstance (T := "StopIteration") (b := true) ⟨o, ho, hc⟩ isSubtype_stop ?_)
  exact wpAny_pure (hQ _ he')
end PySem
namespace Pf
open PySem L2 RZ PySem.Spec PyProof.Rows
/-- the tuple at a, each item in a new pair with its number -/
def IteT (K : PySem.W.Frag) (a : Addr) : It :=
  ⟨fun i H => ∃ (xs : List V) (x : V), SqT K H a xs ∧ xs[i]? = some x, fun i H v H' => ∃ T x, v = .ref T ∧ H T = none ∧ H' = upd H T (.tup [.int (i : Nat), x]) ∧ ∀ xs, SqT K H a xs → xs[i]? = some x, fun i H => ∃ xs : List V, SqT K H a xs ∧ xs.length ≤ i⟩
theorem turn_enumT {P : Program} {w : World} {K : PySem.W.Frag} {elts : List Expr} {kk : Nat} {tpos : Pos} (a e it : Addr) (hai : a ≠ it) (hae : a ≠ e) :
    Turn P w K (.Tuple elts kk tpos) (IteT K a) [e, it] e (fun i h => (∃ old, IsEnum h e it ((i : Nat) : Int) old) ∧ h.IsTupleIter it a i ∧ e ≠ it) where
  mem := by simp
  obj := fun i h st b hb => by
    obtain ⟨⟨old, he⟩, ⟨o, ho, hc, hd⟩, _⟩ := st
    have e' : b = e ∨ b = it := by simpa using hb
    rcases e' with z | z
    · rw [z]; exact ⟨_, he, fun v q => nomatch q⟩
    · rw [z]; exact ⟨o, ho, fun v q => by rw [hd] at q; cases q⟩
  keep := fun i h h' st k => let ⟨⟨old, he⟩, hi, hne⟩ := st; ⟨⟨old, k e (by simp) _ he⟩, hi.at fun o q => k it (by simp) o q, hne⟩
  item := by
    intro X hP hw hK hc i pins s σ H E I hf st hg
    subst hP hw hK
    obtain ⟨⟨old, he⟩, hit, hne⟩ := st
    obtain ⟨xs, x, hq, hx⟩ := hg
    obtain ⟨its, rv, p, hz⟩ := I.tuple hq
    obtain ⟨u, hu, ru⟩ := rv.get hx
    have hlt : i < its.toArray.size := by
      have := (List.getElem?_eq_some_iff.mp hu).1
      simpa using this
    have hel : e < s.heap.objs.size := Heap.lt_size he
    have hil : it < s.heap.objs.size := by obtain ⟨_, q, _⟩ := hit; exact Heap.lt_size q
    refine wpAny_pyNext_enum_itemC (Draws.tuple (A := X.A.in1) (show X.A.in1.handled = none from I.ok.hd hc) it a hai its.toArray) he (i := i) ⟨hit, p⟩ hlt hne (by simp only [List.mem_cons, List.not_mem_nil, or_false, not_or]; exact ⟨hne, Ne.symm hae⟩) fun x' h' tk hx' ho hst' hT hsz hk => ?_
    have ex : x' = u := by
      have : its.toArray[i]? = some u := by simpa using hu
      exact Option.some.inj (hx'.symm.trans this)
    subst ex
    refine ⟨_, rfl, wpAny_letOwnedTupleGo_enum (s := { s with heap := h', toks := tk + 1 }) ho fun h'' he' sb => ?_⟩
    have hT2 : h''.get? s.heap.objs.size = some { cls := .type "tuple", data := .seq #[.int i tk, x'] } := (sb.2 _ (Nat.ne_of_gt hel)).trans hT
    have new : ObjOk X.prog X.w (upd H s.heap.objs.size (.tup [.int (i : Nat), x])) h'' s.heap.objs.size (.tup [.int (i : Nat), x]) :=
      ⟨by show 2 ≤ sizeLine; decide, [.int i tk, x'], .cons ⟨_, rfl⟩ (.cons ru .nil), ⟨_, hT2, rfl, _, rfl⟩⟩
    have I1 : Inv X pins σ (upd H s.heap.objs.size (.tup [.int (i : Nat), x])) { s with heap := h'', toks := tk + 1 } :=
      I.turnedNew (ch := [e, it]) (fun b ob hb q => (sb.2 b (fun z => hb (by simp [z]))).trans (hk b ob (fun z => hb (by simp [z])) (fun z => hb (by simp [z])) q)) hf (Nat.le_refl _) new
    refine ⟨.ref s.heap.objs.size, _, I1, rfl, ⟨_, x, rfl, I.hok.fresh (Nat.le_refl _), rfl, fun ys hy => by rw [I.tuple_inj hy hq]; exact hx⟩, ⟨⟨x', ?_⟩, hst'.1.at fun o q => (sb.2 it (Ne.symm hne)).trans q, hne⟩, fun b hb => ?_⟩
    · have e1 : ((i + 1 : Nat) : Int) = (i : Int) + 1 := by omega
      rw [e1]; exact he'
    · have hb' : b < s.heap.objs.size := by
        have e' : b = e ∨ b = it := by simpa using hb
        rcases e' with z | z
        · rw [z]; exact hel
        · rw [z]; exact hil
      rw [upd_ne (Nat.ne_of_lt hb')]
      exact (hf b hb).1
  done := by
    intro X hP hw hK hc i pins s σ H E I hf st hg
    subst hP hw hK
    obtain ⟨⟨old, he⟩, hit, hne⟩ := st
    obtain ⟨xs, hq, hx⟩ := hg
    obtain ⟨its, rv, p, hz⟩ := I.tuple hq
    obtain ⟨f0, f1, f2, f3, f4, f5⟩ := hf it (by simp)
    have hl := rv.length
    have hno : its.toArray[i]? = none := by simp; omega
    exact enumT_end (I.ok.hd hc) he hit p hno fun h' eb => ⟨rfl, I.turned (t' := s.toks) (fun b o hb q => eb b o hb q) f0 f1 f3 f4 f5⟩
  self := fun A i s Q E st h => let ⟨⟨_, he⟩, _⟩ := st; wpAny_pyIter_enum he h
def iEnumA (K : PySem.W.Frag) (ta : TA) : TI := fun σ H R => ta σ H fun vs H1 => ∃ a xs, vs = [.ref a] ∧ ((SqL K H1 a xs ∧ R (Ite K a) H1) ∨ (SqT K H1 a xs ∧ R (IteT K a) H1))
theorem pi_enumA {X : Cx} {e : Expr} {ta : TA} {p pos tpos : Pos} {elts : List Expr} {kk : Nat} (K : PySem.W.Frag) (hg : Gl X "enumerate") (hm : X.mg "enumerate" = none) (ha : PA X [e] ta) (hs : starEach [e] X.env = [(false, eval e X.env)] := by rfl) (hK : X.K = K := by rfl) :
    PI X (.Tuple elts kk tpos) (.Call (.Name "enumerate" p) [e] [] pos) (iEnumA K ta) := by
  subst hK
  refine ⟨fun pins s σ H R I h => ?_⟩
  refine Call_ (ld_blt I hg hm boot_enumerate (PyProof.Rows.callWith_type1 (thn (ha.run pos pins s σ H _ I h) fun us s1 ⟨vs, H1, I1, r1, q1⟩ => ?_) hs rfl))
  obtain ⟨a, xs, ex, q1⟩ := q1
  subst ex
  cases r1 with
  | cons r rr =>
    cases rr
    cases r
    have hle : ∀ b ∈ [s1.heap.objs.size + 1, s1.heap.objs.size], s1.heap.objs.size ≤ b := fun b hb => by
      have e' : b = s1.heap.objs.size + 1 ∨ b = s1.heap.objs.size := by simpa using hb
      rcases e' with z | z
      · rw [z]; exact Nat.le_add_right _ _
      · rw [z]; exact Nat.le_refl _
    rcases q1 with ⟨hq, q⟩ | ⟨hq, q⟩
    · obtain ⟨its, rv, p', hz⟩ := I1.list hq
      refine call_enumerate_list p'.isList fun h' he hit hsz hk => wpAny_pyIter_enum he ?_
      have I2 : Inv X pins σ H1 { s1 with heap := h' } := I1.kept (t' := s1.toks) hk
      exact ⟨s1.heap.objs.size + 1, [s1.heap.objs.size + 1, s1.heap.objs.size], _, _, H1, rfl, I2, turn_enum a (s1.heap.objs.size + 1) s1.heap.objs.size, ⟨⟨.none, he⟩, hit, Nat.succ_ne_self _⟩, fun b hb => I1.fpOk (hle b hb) (I1.hok.fresh (hle b hb)), q⟩
    · obtain ⟨its, rv, p', hz⟩ := I1.tuple hq
      refine enumT_call p' fun h' he hit hsz hk => wpAny_pyIter_enum he ?_
      have I2 : Inv X pins σ H1 { s1 with heap := h' } := I1.kept (t' := s1.toks) hk
      have hal : a < s1.heap.objs.size := by obtain ⟨o, ho, _⟩ := p'; exact Heap.lt_size ho
      exact ⟨s1.heap.objs.size + 1, [s1.heap.objs.size + 1, s1.heap.objs.size], _, _, H1, rfl, I2, turn_enumT a (s1.heap.objs.size + 1) s1.heap.objs.size (Nat.ne_of_lt hal) (Nat.ne_of_lt (Nat.lt_succ_of_lt hal)), ⟨⟨.none, he⟩, hit, Nat.succ_ne_self _⟩, fun b hb => I1.fpOk (hle b hb) (I1.hok.fresh (hle b hb)), q⟩
theorem walk_enumT {K : PySem.W.Frag} {a : Addr} {xs : List V} : Walk (IteT K a) xs.length (fun H => SqT K H a xs) (YPair (fun i => some (.int (i : Nat))) (fun i => xs[i]?)) := by
  refine ⟨fun i _ hi q => ⟨xs, xs[i], q, by simp [hi]⟩, fun _ q => ⟨xs, q, Nat.le_refl _⟩, fun i H v H' _ q y => ?_⟩
  obtain ⟨T, x, h1, h2, h3, h4⟩ := y
  exact ⟨T, .int (i : Nat), x, h1, h2, h3, rfl, h4 xs q⟩
/-! a sequence that is borrowed -/
theorem numbered_get {xs : List D} {i : Nat} {f : D} (e3 : xs[i]? = some f) : (numbered xs)[i]? = some (.tup [.int (i : Nat), f]) := by
  have hi := (List.getElem?_eq_some_iff.mp e3).1
  unfold numbered
  rw [List.getElem?_map, List.getElem?_range hi]
  show some (D.tup [.int (i : Nat), xs.getD i .non]) = _
  rw [show xs.getD i .non = f by simp [List.getD, e3]]
theorem numbered_len {xs : List D} : (numbered xs).length = xs.length := by simp [numbered]
theorem seq_keep {K : PySem.W.Frag} {H H' : Hp} {p : Addr} {vs : List V} {B : Addr → Prop} (e : StepB B H H') (hb : ¬ B p) (h : SqL K H p vs ∨ SqT K H p vs) : SqL K H' p vs ∨ SqT K H' p vs := by
  rcases h with ((h | ⟨o, h⟩) | h) | ((h | ⟨o, h⟩) | h)
  · exact .inl (.inl (.inl (e _ _ hb h)))
  · exact .inl (.inl (.inr ⟨o, e _ _ hb h⟩))
  · exact .inl (.inr h)
  · exact .inr (.inl (.inl (e _ _ hb h)))
  · exact .inr (.inl (.inr ⟨o, e _ _ hb h⟩))
  · exact .inr (.inr h)
section
variable {F : Fm} {δ : List SD} {M : Addr → Bool} {σ : L2.St} {H : Hp} {PX : List D → Prop} {ta : TA} {te : TE} {P : D → Prop}
theorem Ctx.getSq (c : Ctx F M σ H δ) {i : Nat} {ds : List D} (h : δ[i]? = some (.sq ds)) : ∃ p vs, σ[i]? = some (some (.ref p)) ∧ (SqL F.K H p vs ∨ SqT F.K H p vs) ∧ RepL F.K (hd M H) vs ds ∧
    ∀ H', StepB F.mv F.H0 H' → (SqL F.K H' p vs ∨ SqT F.K H' p vs) := by
  obtain ⟨s, h1, p, vs, h2, h3, h4, h5⟩ := c.sl i _ h
  subst h2
  exact ⟨p, vs, h1, seq_keep c.fr h3 h4, h5, fun H' e => seq_keep e h3 h4⟩
end
end Pf

namespace Pf
open PySem L2 RZ PySem.Spec PyProof.Rows PySem.W PySem.Calls
/-! ### sorted of a list or a tuple of alike data -/
theorem sortS_core {prog : Program} {w : World} {A : Around} {E : Value → Shared → Prop} {s : Shared} {β : Type} {vs : List Value} {bs : List β} {enc : β → PyData} {R : Value → β → Prop} {l : Addr} {T : String} {o : Obj} {n : Nat} {Q : Value → Shared → Prop}
    (hT : T = "list" ∨ T = "tuple") (ho : s.heap.get? l = some o) (hc : o.cls = .type T) (hd : o.data = .seq vs.toArray n) (e : EachIs R vs bs) (er : EachIs (fun v b => ∃ as, Reads s.heap v (enc b) as) vs bs) (hal : AllAlike (bs.map enc)) (hk : Sortable (bs.map enc)) (hL : bs.length ≤ sizeLine)
    (hu : ∀ b, b ∈ bs → A.units + 2 + (enc b).depth < cLine)
    (h : ∀ (h1 h2 : Heap) (out : List Value) (ep : Nat), (∀ b o, s.heap.get? b = some o → h1.get? b = some o) → (∀ b o, h1.get? b = some o → h2.get? b = some o) → out.length = bs.length → EachIs R out (bs.mergeSort (dataLe false enc)) →
      h2.get? h1.objs.size = some (seqObj "list" out.toArray ep) → Q (.ref h1.objs.size) { s with heap := h2 }) :
    wpAny (model prog w) A (call (.builtin "sorted") [.ref l]) Q E s := by
  have hlen : vs.length = bs.length := e.length
  refine call_function_entry_kw kind_sorted plain_sorted entry_sorted (args_sorted1 _) ?_
  unfold Builtin.«sorted»
  refine wpAny_bind (m := checkCount "sorted" 1 1 _) (wpAny_pure ?_)
  refine wpAny_bind (wpAny_collect_seq l hT ho hc hd (fun h1 k1 => ?_) (by rw [List.size_toArray, hlen]; exact hL))
  have evs : vs.toArray.toList = vs := by simp
  rw [evs]
  refine wpAny_bind (wpAny_newList ?_ (by rw [hlen]; exact hL))
  have hat : (h1.push (seqObj "list" vs.toArray 0)).get? h1.objs.size = some (seqObj "list" vs.toArray 0) := Heap.get?_push_size _ rfl
  have kp : ∀ b o, h1.get? b = some o → (h1.push (seqObj "list" vs.toArray 0)).get? b = some o := fun b o q => Heap.get?_push_of_some _ q
  show wpAny _ _ _ _ _ { s with heap := h1.push (seqObj "list" vs.toArray 0) }
  refine wpAny_bind (wpAny_holding (wpAny_call_entry_kw slot_list_sort ⟨_, hat, rfl⟩ entry_list_sort ?body (args_list_sort _)))
  case body =>
    show wpAny (model prog w) A.in1.in1 (Builtin.«list.sort» ⟨[.ref h1.objs.size], []⟩) _ _ _
    have old : ∀ b o, h1.get? b = some o → (sortingHeap (h1.push (seqObj "list" vs.toArray 0)) h1.objs.size vs).get? b = some o := fun b o q =>
      sortingHeap_old (Nat.ne_of_lt (Heap.lt_size q)) (kp b o q)
    have er' : EachIs (fun v b => ∃ as, Reads (sortingHeap (h1.push (seqObj "list" vs.toArray 0)) h1.objs.size vs) v (enc b) as) vs bs := er.mono fun _ _ ⟨as, r⟩ => ⟨as, PyProof.Rows.Reads.keeps (fun b o q => old b o (k1 b o q)) r⟩
    refine list_sort_vals (κ := dataKind (sortingHeap (h1.push (seqObj "list" vs.toArray 0)) h1.objs.size vs) (bs.map enc)) (s := { s with heap := h1.push (seqObj "list" vs.toArray 0) }) hat (SortsAt.data (s := { s with heap := sortingHeap (h1.push (seqObj "list" vs.toArray 0)) h1.objs.size vs }) (each_map (R := fun v d => ∃ as, Reads (sortingHeap (h1.push (seqObj "list" vs.toArray 0)) h1.objs.size vs) v d as) enc er') hal hk (bound_map hu)) (by rw [hlen]; exact hL) ?_
    obtain ⟨ep, h3⟩ := sortedHeap_at (a := h1.objs.size) (vs := vs) (out := (sortVals (dataKind (sortingHeap (h1.push (seqObj "list" vs.toArray 0)) h1.objs.size vs) (bs.map enc)) false vs vs).toArray) hat
    refine ⟨_, rfl, wpAny_pure ⟨_, rfl, h h1 _ _ ep k1 (fun b o q => ?_) (by rw [sortVals_length false rfl]; exact hlen) (sortVals_data false e er' hal) h3⟩⟩
    have hlt := Heap.lt_size q
    exact sortedHeap_old (Nat.ne_of_lt hlt) (by rw [Heap.size_push]; exact Nat.lt_succ_of_lt hlt) |>.trans (kp b o q)
/-! as a rule of the layer -/
def rSortA (K : PySem.W.Frag) : List V → Hp → VK → Prop := fun vs H Q => ∃ (a : Addr) (xs : List V) (ps : List PyData), vs = [.ref a] ∧ (SqL K H a xs ∨ SqT K H a xs) ∧ DpAll K H xs ps ∧ AllAlike ps ∧ PySem.W.Sortable ps ∧ (∀ d ∈ ps, d.depth ≤ 60) ∧
  ∀ p, H p = none → Q (.ref p) (upd H p (.lst (((xs.zip ps).mergeSort (dataLe false Prod.snd)).map Prod.fst)))
theorem dpAll_len {K : PySem.W.Frag} {H : Hp} : ∀ {xs : List V} {ps : List PyData}, DpAll K H xs ps → xs.length = ps.length
  | _, _, .nil => rfl
  | _, _, .cons _ r => congrArg Nat.succ (dpAll_len r)
theorem each_zip : ∀ {xs : List V} {us : List Value} {ps : List PyData}, Vals xs us → xs.length = ps.length → EachIs (fun u (b : V × PyData) => RelV b.1 u) us (xs.zip ps)
  | _, _, [], .nil, _ => .nil
  | _, _, p :: ps, .nil, h => by cases h
  | _, _, [], .cons _ _, h => by cases h
  | _, _, p :: ps, .cons r rs, h => .cons r (each_zip rs (Nat.succ.inj h))
theorem vals_each : ∀ {us : List Value} {bs : List (V × PyData)}, EachIs (fun u (b : V × PyData) => RelV b.1 u) us bs → Vals (bs.map Prod.fst) us
  | _, _, .nil => .nil
  | _, _, .cons r rs => .cons r (vals_each rs)
theorem each_reads {X : Cx} {pins : List (Addr × Obj)} {σ : L2.St} {H : Hp} {s : Shared} (I : Inv X pins σ H s) : ∀ {xs : List V} {us : List Value} {ps : List PyData}, DpAll X.K H xs ps → Vals xs us → EachIs (fun u (b : V × PyData) => ∃ as, Reads s.heap u b.2 as) us (xs.zip ps)
  | _, _, _, .nil, .nil => .nil
  | _, _, _, .cons d ds, .cons r rs => .cons (Dp.reads I _ _ _ d r) (each_reads I ds rs)
theorem zip_snd {α β : Type} : ∀ {xs : List α} {ps : List β}, xs.length = ps.length → (xs.zip ps).map Prod.snd = ps
  | [], [], _ => rfl
  | _ :: xs, _ :: ps, h => by rw [List.zip_cons_cons, List.map_cons, zip_snd (Nat.succ.inj h)]
theorem cr_sortA {X : Cx} (K : PySem.W.Frag) (hu : X.A.units + 64 < cLine) (hK : X.K = K := by rfl) : CallR X (.builtin "sorted") (rSortA K) := by
  subst hK
  intro pins s σ H vs us Q I r h
  obtain ⟨a, xs, ps, rfl, hs, hp, hal, hso, hdp, q⟩ := h
  obtain ⟨u, rfl, ru⟩ := vals1 r
  obtain rfl : u = Value.ref a := ru
  have hl := dpAll_len hp
  have key : ∀ (T : String) (o : Obj) (n : Nat) (its : List Value), (T = "list" ∨ T = "tuple") → s.heap.get? a = some o → o.cls = .type T → o.data = .seq its.toArray n → Vals xs its → xs.length ≤ sizeLine → wpAny (model X.prog X.w) X.A (call (.builtin "sorted") [.ref a]) (EP X pins σ Q) X.xe s := by
    intro T o n its hT ho hc hd rv hz
    refine sortS_core (β := V × PyData) (enc := Prod.snd) (R := fun u b => RelV b.1 u) (bs := xs.zip ps) hT ho hc hd (each_zip rv hl) (each_reads I hp rv) (by rw [zip_snd hl]; exact hal) (by rw [zip_snd hl]; exact hso)
      (by rw [List.length_zip, hl, Nat.min_self, ← hl]; exact hz) (fun b hb => ?_) fun h1 h2 out ep k1 k2 hlen eo hnew => ?_
    · have hm : b.2 ∈ ps := by
        have := List.mem_map_of_mem (f := Prod.snd) hb
        rw [zip_snd hl] at this
        exact this
      have := hdp _ hm
      omega
    · have I1 : Inv X pins σ H { s with heap := h1 } := I.kept (t' := s.toks) k1
      have hv := vals_each eo
      have hlen2 : (((xs.zip ps).mergeSort (dataLe false Prod.snd)).map Prod.fst).length ≤ sizeLine := by
        rw [List.length_map, List.length_mergeSort, List.length_zip, hl, Nat.min_self, ← hl]
        exact hz
      exact ⟨.ref _, upd H h1.objs.size (.lst (((xs.zip ps).mergeSort (dataLe false Prod.snd)).map Prod.fst)), I1.laid (t' := s.toks) k2 (Nat.le_refl _) ⟨hlen2, out, ep, hv, hnew⟩, rfl, q _ (I1.hok.fresh (Nat.le_refl _))⟩
  rcases hs with hs | hs
  · obtain ⟨its, rv, ⟨o, n, ho, hc, _, hd⟩, hz⟩ := I.list hs
    exact key "list" o n its (.inl rfl) ho hc hd rv hz
  · obtain ⟨its, rv, ⟨o, ho, hc, n, hd⟩, hz⟩ := I.tuple hs
    exact key "tuple" o n its (.inr rfl) ho hc hd rv hz
/-! data as the library tells it -/
mutual
def pyd : D → PyData
  | .bl b => .bool b | .int i => .int i | .str x => .str x
  | .lst xs => .list (pydL xs) | .tup xs => .tuple (pydL xs)
  | _ => .none
def pydL : List D → List PyData
  | [] => []
  | x :: xs => pyd x :: pydL xs
end
mutual
/-- none, bools, ints, texts, lists and tuples of these -/
def plainD : D → Bool
  | .non => true | .bl _ => true | .int _ => true | .str _ => true
  | .lst xs => plainL xs | .tup xs => plainL xs
  | _ => false
def plainL : List D → Bool
  | [] => true
  | x :: xs => plainD x && plainL xs
end
theorem pydL_map : ∀ xs : List D, pydL xs = xs.map pyd
  | [] => by simp only [pydL, List.map_nil]
  | x :: xs => by simp only [pydL, List.map_cons, pydL_map xs]
mutual
theorem rep_dp {K : PySem.W.Frag} {H : Hp} : ∀ {v : V} {d : D}, Rep K H v d → plainD d = true → Dp K H v (pyd d)
  | _, _, .non, _ => by simp only [pyd]; exact .non
  | _, _, .bl b, _ => by simp only [pyd]; exact .bl b
  | _, _, .int i, _ => by simp only [pyd]; exact .int i
  | _, _, .str x, _ => by simp only [pyd]; exact .str x
  | _, _, .lst h r, p => by
    simp only [pyd]
    simp only [plainD] at p
    exact .lst (SqL.of h) (repL_dp r p)
  | _, _, .tup h r, p => by
    simp only [pyd]
    simp only [plainD] at p
    exact .tup h (repL_dp r p)
  | _, _, .dic _ _, p => by simp [plainD] at p
  | _, _, .ins _ _, p => by simp [plainD] at p
  | _, _, .ty _, p => by simp [plainD] at p
  | _, _, .adr _, p => by simp [plainD] at p
  | _, _, .exc _ _ _, p => by simp [plainD] at p
theorem repL_dp {K : PySem.W.Frag} {H : Hp} : ∀ {v : List V} {d : List D}, RepL K H v d → plainL d = true → DpAll K H v (pydL d)
  | _, _, .nil, _ => by simp only [pydL]; exact .nil
  | _, _, .cons h r, p => by
    simp only [pydL]
    simp only [plainL, Bool.and_eq_true] at p
    exact .cons (rep_dp h p.1) (repL_dp r p.2)
end
/-- the one order that sorted gives -/
def sortD (ds : List D) : List D := ds.mergeSort (dataLe false pyd)
structure SortOk (ds : List D) : Prop where
  pl : plainL ds = true
  al : AllAlike (ds.map pyd)
  so : PySem.W.Sortable (ds.map pyd)
  dp : ∀ d ∈ ds, (pyd d).depth ≤ 60
theorem repL_zip {K : PySem.W.Frag} {H : Hp} {xs : List V} {ds : List D} (r : RepL K H xs ds) : ∀ p ∈ xs.zip ds, Rep K H p.1 p.2 := by
  induction xs generalizing ds with
  | nil =>
    intro p hp
    simp at hp
  | cons x xs ih =>
    cases r with
    | cons h r =>
      intro p hp
      rw [List.zip_cons_cons] at hp
      rcases List.mem_cons.mp hp with e | hp
      · subst e
        exact h
      · exact ih r p hp
theorem repL_of_pairs {K : PySem.W.Frag} {H : Hp} : ∀ {L : List (V × D)}, (∀ p ∈ L, Rep K H p.1 p.2) → RepL K H (L.map Prod.fst) (L.map Prod.snd)
  | [], _ => .nil
  | p :: L, h => .cons (h p (by simp)) (repL_of_pairs fun q hq => h q (List.mem_cons_of_mem _ hq))
theorem repL_sort {K : PySem.W.Frag} {H : Hp} {xs : List V} {ds : List D} (r : RepL K H xs ds) : RepL K H (((xs.zip (ds.map pyd)).mergeSort (dataLe false Prod.snd)).map Prod.fst) (sortD ds) := by
  have e1 : xs.zip (ds.map pyd) = (xs.zip ds).map fun p => (p.1, pyd p.2) := by
    rw [List.zip_map_right]
    rfl
  have e2 : ((xs.zip ds).mergeSort (dataLe false fun p : V × D => pyd p.2)).map (fun p => (p.1, pyd p.2)) = ((xs.zip ds).map fun p => (p.1, pyd p.2)).mergeSort (dataLe false Prod.snd) :=
    sort_maps _ fun a _ b _ => rfl
  have e3 : ((xs.zip ds).mergeSort (dataLe false fun p : V × D => pyd p.2)).map Prod.snd = ((xs.zip ds).map Prod.snd).mergeSort (dataLe false pyd) :=
    sort_maps _ fun a _ b _ => rfl
  rw [e1, ← e2, List.map_map]
  rw [zip_snd r.length] at e3
  unfold sortD
  rw [← e3]
  exact repL_of_pairs fun p hp => repL_zip r p ((List.mergeSort_perm _ _).mem_iff.mp hp)
section
variable {F : Fm} {δ : List SD} {te : TE} {PL : List D → Prop}
theorem en_sorted (h : Ev F te δ fun d => ∃ xs, (d = .lst xs ∨ d = .tup xs) ∧ SortOk xs ∧ PL (sortD xs)) : EvN F (tCB (rSortA F.K) (tCons te tNil)) δ PL := fun M σ H Q c q =>
  h M σ H _ c fun v d H1 p c1 e1 r => by
    obtain ⟨xs, hd', ok, pz⟩ := p
    have key : ∀ (a : Addr) (vs : List V), (SqL F.K H1 a vs ∨ SqT F.K H1 a vs) → RepL F.K (hd M H1) vs xs → rSortA F.K [.ref a] H1 Q := fun a vs hs hr => by
      refine ⟨a, vs, xs.map pyd, rfl, hs, ?_, ok.al, ok.so, fun d hd => ?_, fun p hp => ?_⟩
      · rw [← pydL_map]
        exact repL_dp (hr.mono (same_hd M H1)) ok.pl
      · obtain ⟨x, hx, rfl⟩ := List.mem_map.mp hd
        exact ok.dp x hx
      have hp0 : H p = none := by
        cases z : H p with
        | none => rfl
        | some o =>
          have := e1 p o (c1.nob hp) z
          rw [hp] at this
          cases this
      refine q p _ (sortD xs) _ pz (c1.hide hp) hp0 (c1.h0 hp) (c1.nob hp) (c1.nown hp) (e1.trans (StepB.of (same_new hp))) upd_same ((repL_sort hr).mono fun b u e => ?_)
      obtain ⟨m, h⟩ := hd_of e
      have n : b ≠ p := ne_of_none h hp
      exact hd_at (by rw [hid_ne n]; exact m) (by rw [upd_ne n]; exact h)
    rcases hd' with rfl | rfl
    · cases r with
      | lst h1 h2 => exact key _ _ (.inl (SqL.of (hd_of h1).2)) h2
    · cases r with
      | tup h1 h2 => exact key _ _ (.inr (same_tup (same_hd M H1) h1)) h2
theorem en_sortedSq {i : Nat} {xs : List D} (hi : δ[i]? = some (.sq xs)) (ok : SortOk xs) (pz : PL (sortD xs)) : EvN F (tCB (rSortA F.K) (tCons (tVar i) tNil)) δ PL := fun M σ H Q c q => by
  obtain ⟨a, vs, h1, hs, hr, _⟩ := c.getSq hi
  refine ⟨_, h1, a, vs, xs.map pyd, rfl, hs, ?_, ok.al, ok.so, fun d hd => ?_, fun p hp => ?_⟩
  · rw [← pydL_map]
    exact repL_dp (hr.mono (same_hd M H)) ok.pl
  · obtain ⟨x, hx, rfl⟩ := List.mem_map.mp hd
    exact ok.dp x hx
  · refine q p _ (sortD xs) _ pz (c.hide hp) hp (c.h0 hp) (c.nob hp) (c.nown hp) (StepB.of (same_new hp)) upd_same ((repL_sort hr).mono fun b u e => ?_)
    obtain ⟨m, h⟩ := hd_of e
    have n : b ≠ p := ne_of_none h hp
    exact hd_at (by rw [hid_ne n]; exact m) (by rw [upd_ne n]; exact h)
end
end Pf

namespace Pf
open PySem L2 RZ PySem.Spec PyProof.Rows
/-! ### dicts -/
def valD (kvs : List (Key × D)) (k : Key) : Option D := (kvs.find? fun kv => decide (kv.1 = k)).map (·.2)
def putD (kvs : List (Key × D)) (k : Key) (v : D) : List (Key × D) :=
  if (kvs.any fun kv => decide (kv.1 = k)) = true then kvs.map (fun kv => if kv.1 = k then (kv.1, v) else kv) else kvs ++ [(k, v)]
section
variable {K : PySem.W.Frag} {H : Hp}
theorem RepK.val : ∀ {vs : List (Key × V)} {ds : List (Key × D)} (k : Key), RepK K H vs ds → (valD ds k = none → valV vs k = none) ∧ ∀ d, valD ds k = some d → ∃ v, valV vs k = some v ∧ Rep K H v d
  | _, _, k, .nil => ⟨fun _ => rfl, fun d h => by simp [valD] at h⟩
  | _, _, k, .cons (k := k0) (v := v0) (vs := vs) (d := d0) (ds := ds) h r => by
    by_cases e : k0 = k
    · subst e
      refine ⟨fun h => by simp [valD] at h, fun d hd => ⟨v0, by simp [valV], ?_⟩⟩
      have : d0 = d := by simpa [valD] using hd
      rw [← this]
      exact h
    · have e1 : valV ((k0, v0) :: vs) k = valV vs k := by simp [valV, List.find?_cons, e]
      have e2 : valD ((k0, d0) :: ds) k = valD ds k := by simp [valD, List.find?_cons, e]
      rw [e1, e2]
      exact RepK.val k r
theorem RepK.any : ∀ {vs : List (Key × V)} {ds : List (Key × D)} (k : Key), RepK K H vs ds → (vs.any fun kv => decide (kv.1 = k)) = (ds.any fun kv => decide (kv.1 = k))
  | _, _, k, .nil => rfl
  | _, _, k, .cons h r => by rw [List.any_cons, List.any_cons, RepK.any k r]
theorem RepK.length : ∀ {vs : List (Key × V)} {ds : List (Key × D)}, RepK K H vs ds → vs.length = ds.length
  | _, _, .nil => rfl
  | _, _, .cons _ r => congrArg Nat.succ (RepK.length r)
theorem RepK.snoc : ∀ {vs : List (Key × V)} {ds : List (Key × D)} {k : Key} {v : V} {d : D}, RepK K H vs ds → Rep K H v d → RepK K H (vs ++ [(k, v)]) (ds ++ [(k, d)])
  | _, _, k, v, d, .nil, h => .cons h .nil
  | _, _, k, v, d, .cons h0 r, h => .cons h0 (RepK.snoc r h)
theorem RepK.repl : ∀ {vs : List (Key × V)} {ds : List (Key × D)} (k : Key) {v : V} {d : D}, RepK K H vs ds → Rep K H v d → RepK K H (vs.map fun kv => if kv.1 = k then (kv.1, v) else kv) (ds.map fun kv => if kv.1 = k then (kv.1, d) else kv)
  | _, _, k, v, d, .nil, h => .nil
  | _, _, k, v, d, .cons (k := k0) h0 r, h => by
    rw [List.map_cons, List.map_cons]
    by_cases e : k0 = k
    · simp only [e, if_true]
      exact .cons h (RepK.repl k r h)
    · simp only [e, if_false]
      exact .cons h0 (RepK.repl k r h)
theorem RepK.put {vs : List (Key × V)} {ds : List (Key × D)} {k : Key} {v : V} {d : D} (r : RepK K H vs ds) (h : Rep K H v d) : RepK K H (putK vs k v) (putD ds k d) := by
  unfold putK putD
  rw [RepK.any k r]
  by_cases e : (ds.any fun kv => decide (kv.1 = k)) = true
  · rw [if_pos e, if_pos e]
    exact RepK.repl k r h
  · rw [if_neg e, if_neg e]
    exact RepK.snoc r h
end
/-- a key as data -/
def kD : Key → D
  | .inl i => .int i
  | .inr x => .str x
theorem rep_key {K : PySem.W.Frag} {H : Hp} {k : Key} {v : V} (r : Rep K H v (kD k)) : v = kV k := by
  cases k with
  | inl i => cases r; rfl
  | inr x => cases r; rfl
theorem putD_len {kvs : List (Key × D)} {k : Key} {d : D} : (putD kvs k d).length ≤ kvs.length + 1 := by
  unfold putD
  split
  · rw [List.length_map]; omega
  · rw [List.length_append]; simp
theorem putD_new {kvs : List (Key × D)} {k : Key} {d : D} (h : valD kvs k = none) : putD kvs k d = kvs ++ [(k, d)] := by
  unfold putD
  rw [if_neg]
  intro e
  obtain ⟨p, hp, e⟩ := List.any_eq_true.mp e
  have : kvs.find? (fun kv => decide (kv.1 = k)) = none := by
    unfold valD at h
    exact Option.map_eq_none_iff.mp h
  exact absurd e (List.find?_eq_none.mp this p hp)
section
variable {F : Fm} {δ : List SD} {te tv td ty : TE} {P : D → Prop} {R : PD} {tt : TT}
theorem do_ownDic {i : Nat} (h : ∀ p, R.nx (δ.set i (.own p (.dic [])))) : Do F (tAsg tDNewK (gName i)) δ R := fun M σ H E c a b k d => by
  intro p hp
  refine a (hid M p) _ _ _ (h p) ((c.hide hp (o := .dK [])).setOwn i hid_same upd_same (.dic .nil) (c.h0 hp) (c.nob hp) fun j es _ => c.nown hp j es) fun x o hx => ?_
  obtain ⟨m, h1⟩ := hd_of hx
  have n : x ≠ p := ne_of_none h1 hp
  exact hd_at (by rw [hid_ne n]; exact m) (by rw [upd_ne n]; exact h1)
theorem do_dput {i : Nat} {p : Addr} {kvs : List (Key × D)} (hi : δ[i]? = some (.own p (.dic kvs))) (hl : kvs.length < 100000) (h : Ev F tv δ fun v => Ev F ty δ fun y => ∃ k, y = kD k ∧ R.nx (δ.set i (.own p (.dic (putD kvs k v))))) :
    Do F (sDPut (tVar i) ty tv) δ R := fun M σ H E c a b k d => by
  refine h M σ H _ c fun v x H1 p1 c1 e1 r1 => ?_
  obtain ⟨s, hs, e, m, ho, hp, rr⟩ := c1.sl i _ hi
  subst e
  refine ⟨_, hs, ?_⟩
  refine p1 M σ H1 _ c1 fun w y H2 p2 c2 e2 r2 => ?_
  obtain ⟨k0, rfl, p2⟩ := p2
  have ew := rep_key r2
  subst ew
  obtain ⟨s', hs', e', m', ho', hp', rr'⟩ := c2.sl i _ hi
  rw [hs] at hs'
  cases hs'
  cases rr' with
  | @dic vs _ rr' =>
    refine ⟨p, _, rfl, .k hp' (by rw [rr'.length]; exact sz_lt hl), ?_⟩
    refine a M σ _ _ p2 (c2.put hi (.dic (rr'.put (r1.mono (hd_step c1 e2))))) ?_
    rw [hd_upd m]
    exact (hd_step c e1).trans (hd_step c1 e2)
/-- k in d, d one's own -/
theorem ev_dinO {i : Nat} {p : Addr} {kvs : List (Key × D)} (hi : δ[i]? = some (.own p (.dic kvs))) (h : Ev F ty δ fun y => ∃ k, y = kD k ∧ P (.bl (valD kvs k).isSome)) : Ev F (tDIn ty (tVar i)) δ P := fun M σ H Q c q =>
  h M σ H _ c fun w y H1 p1 c1 e1 r1 => by
    obtain ⟨k0, rfl, p1⟩ := p1
    have ew := rep_key r1
    subst ew
    obtain ⟨s, hs, e, m, ho, hp, rr⟩ := c1.sl i _ hi
    subst e
    cases rr with
    | @dic vs _ rr =>
      refine ⟨_, hs, p, valV vs k0, rfl, .k hp, ?_⟩
      have e : (valV vs k0).isSome = (valD kvs k0).isSome := by
        obtain ⟨g1, g2⟩ := rr.val k0
        cases z : valD kvs k0 with
        | none => rw [g1 z]; rfl
        | some d =>
          obtain ⟨v, g3, _⟩ := g2 d z
          rw [g3]
          rfl
      rw [e]
      exact q _ _ H1 p1 c1 e1 (.bl _)
/-- k in d -/
theorem ev_din (h : Ev F ty δ fun y => ∃ k, y = kD k ∧ Ev F td δ fun x => ∃ kvs, x = .dic kvs ∧ P (.bl (valD kvs k).isSome)) : Ev F (tDIn ty td) δ P := fun M σ H Q c q =>
  h M σ H _ c fun w y H1 p1 c1 e1 r1 => by
    obtain ⟨k0, rfl, p1⟩ := p1
    have ew := rep_key r1
    subst ew
    refine p1 M σ H1 _ c1 fun u x H2 p2 c2 e2 r2 => ?_
    obtain ⟨kvs, rfl, p2⟩ := p2
    cases r2 with
    | @dic a vs _ h1 rr =>
      refine ⟨a, valV vs k0, rfl, .k (hd_of h1).2, ?_⟩
      have e : (valV vs k0).isSome = (valD kvs k0).isSome := by
        obtain ⟨g1, g2⟩ := rr.val k0
        cases z : valD kvs k0 with
        | none => rw [g1 z]; rfl
        | some d =>
          obtain ⟨v, g3, _⟩ := g2 d z
          rw [g3]
          rfl
      rw [e]
      exact q _ _ H2 p2 c2 (e1.trans e2) (.bl _)
/-- d[k] -/
theorem ev_dget (h : Ev F td δ fun x => Ev F ty δ fun y => ∃ kvs k d, x = .dic kvs ∧ y = kD k ∧ valD kvs k = some d ∧ P d) : Ev F (tDGet td ty) δ P := fun M σ H Q c q =>
  h M σ H _ c fun u x H1 p1 c1 e1 r1 => p1 M σ H1 _ c1 fun w y H2 p2 c2 e2 r2 => by
    obtain ⟨kvs, k0, d, rfl, rfl, hd', p2⟩ := p2
    have ew := rep_key r2
    subst ew
    have r1' := r1.mono (hd_step c1 e2)
    cases r1' with
    | @dic a vs _ h1 rr =>
      obtain ⟨v, g3, g4⟩ := (rr.val k0).2 d hd'
      refine ⟨a, v, rfl, ?_, q v d H2 p2 c2 (e1.trans e2) g4⟩
      rw [← g3]
      exact .k (hd_of h1).2
end
/-! ### instances -/
def putFD (f : Str) (v : D) : List (Str × D) → List (Str × D)
  | [] => [(f, v)]
  | (g, x) :: r => if g = f then (g, v) :: r else (g, x) :: putFD f v r
theorem RepF.put {K : PySem.W.Frag} {H : Hp} {f : Str} {v : V} {d : D} (h : Rep K H v d) : ∀ {vs : List (Str × V)} {ds : List (Str × D)}, RepF K H vs ds → RepF K H (putF f v vs) (putFD f d ds)
  | _, _, .nil => .cons h .nil
  | _, _, .cons (k := k) h0 r => by
    unfold putF putFD
    by_cases e : k = f
    · rw [if_pos e, if_pos e]
      exact .cons h r
    · rw [if_neg e, if_neg e]
      exact .cons h0 (RepF.put h r)
theorem RepF.length {K : PySem.W.Frag} {H : Hp} : ∀ {vs : List (Str × V)} {ds : List (Str × D)}, RepF K H vs ds → vs.length = ds.length
  | _, _, .nil => rfl
  | _, _, .cons _ r => congrArg Nat.succ (RepF.length r)
/-- C(..) at its class facts -/
def spI (K : PySem.W.Frag) (C : Addr) (Pre : List D → Prop) (Post : List D → List (Str × D) → Prop) : Sp := fun vs H Q _ => ∃ (M : Addr → Bool) (H1 : Hp) (x dx : Addr) (ws : List V) (ds : List D), vs = .ref x :: ws ∧ H1 x = none ∧ H1 dx = none ∧ dx ≠ x ∧
  H = upd (upd H1 dx (.own x)) x (.ins C dx []) ∧ Al M H1 ∧ RepL K (hd M H1) ws ds ∧ Pre ds ∧ ∀ H2 fs, Post ds fs → Same H1 H2 → Rep K (hd M H2) (.ref x) (.ins C fs) → Q .non H2
/-- the same, the last argument a sequence that is only read -/
def spIS (K : PySem.W.Frag) (C : Addr) (Pre : List D → List D → Prop) (Post : List D → List D → List (Str × D) → Prop) : Sp := fun vs H Q _ => ∃ (M : Addr → Bool) (H1 : Hp) (x dx : Addr) (ws : List V) (ds : List D) (p : Addr) (us : List V) (es : List D), vs = .ref x :: (ws ++ [.ref p]) ∧ H1 x = none ∧ H1 dx = none ∧ dx ≠ x ∧
  H = upd (upd H1 dx (.own x)) x (.ins C dx []) ∧ Al M H1 ∧ RepL K (hd M H1) ws ds ∧ (SqL K H1 p us ∨ SqT K H1 p us) ∧ RepL K (hd M H1) us es ∧ Pre ds es ∧ ∀ H2 fs, Post ds es fs → Same H1 H2 → Rep K (hd M H2) (.ref x) (.ins C fs) → Q .non H2
section
variable {F : Fm} {δ : List SD} {ta : TA} {te tv : TE} {P : D → Prop} {R : PD} {C : Addr} {f : Str} {E : XK}
theorem do_fset {i : Nat} {p : Addr} {fs : List (Str × D)} (hi : δ[i]? = some (.own p (.ins C fs))) (cl : Cls F.K C) (na : NoAttr F.K C f) (hl : fs.length < 1000) (h : Ev F tv δ fun v => R.nx (δ.set i (.own p (.ins C (putFD f v fs))))) :
    Do F (sFld F.K (tVar i) tv f) δ R := fun M σ H E c a b k d => by
  refine h M σ H _ c fun v x H1 p1 c1 e1 r1 => ?_
  obtain ⟨s, hs, e, m, ho, hp, rr⟩ := c1.sl i _ hi
  subst e
  cases rr with
  | @ins _ dx vs _ rr =>
    refine ⟨_, hs, p, C, dx, vs, rfl, hp, cl, na, by rw [rr.length]; exact hl, ?_⟩
    refine a M σ _ _ p1 (c1.put hi (.ins (rr.put r1))) ?_
    rw [hd_upd m]
    exact hd_step c e1
theorem ev_fld (cl : Cls F.K C) (na : NoAttr F.K C f) (h : Ev F te δ fun x => ∃ fs d, x = .ins C fs ∧ fs.lookup f = some d ∧ P d) : Ev F (tFld F.K te f) δ P := fun M σ H Q c q =>
  h M σ H _ c fun v x H1 p1 c1 e1 r1 => by
    obtain ⟨fs, d, rfl, hd', p1⟩ := p1
    cases r1 with
    | @ins a _ dx vs _ h1 rr =>
      obtain ⟨u, g1, g2⟩ := rr.get hd'
      exact ⟨a, C, dx, vs, u, rfl, (hd_of h1).2, cl, na, g1, q u d H1 p1 c1 e1 g2⟩
theorem same_made {H1 : Hp} {x dx : Addr} {C : Addr} (hx : H1 x = none) (hdx : H1 dx = none) : Same H1 (upd (upd H1 dx (.own x)) x (.ins C dx [])) := fun a o e => by
  rw [upd_ne (ne_of_none e hx), upd_ne (ne_of_none e hdx)]
  exact e
theorem ev_make {Pre : List D → Prop} {Post : List D → List (Str × D) → Prop} (h : EvA F ta δ fun ds => Pre ds ∧ ∀ fs, Post ds fs → P (.ins C fs)) : Ev F (tMake C (spI F.K C Pre Post) [] E ta) δ P := fun M σ H Q c q =>
  h M σ H _ c fun vs ds H1 p c1 e1 r x dx hx hdx ne => by
    rw [List.append_nil]
    exact ⟨M, H1, x, dx, vs, ds, rfl, hx, hdx, ne, rfl, c1.al, r, p.1, fun H2 fs ps s rr => ⟨rfl, q _ _ H2 (p.2 fs ps) (c1.same s) (e1.trans (StepB.of s)) rr⟩⟩
/-- C(e, xs), xs data -/
theorem ev_makeS {Pre : List D → List D → Prop} {Post : List D → List D → List (Str × D) → Prop} (h : EvA F ta δ fun ds => ∃ es ds0 l, ds = ds0 ++ [l] ∧ (l = .lst es ∨ l = .tup es) ∧ Pre ds0 es ∧ ∀ fs, Post ds0 es fs → P (.ins C fs)) :
    Ev F (tMake C (spIS F.K C Pre Post) [] E ta) δ P := fun M σ H Q c q =>
  h M σ H _ c fun vs ds H1 p c1 e1 r x dx hx hdx ne => by
    obtain ⟨es, ds0, l, rfl, hl, pre, po⟩ := p
    rw [List.append_nil]
    have sp : ∀ {vs : List V} {ds0 : List D}, RepL F.K (hd M H1) vs (ds0 ++ [l]) → ∃ ws u, vs = ws ++ [u] ∧ RepL F.K (hd M H1) ws ds0 ∧ Rep F.K (hd M H1) u l := by
      intro vs ds0
      induction ds0 generalizing vs with
      | nil =>
        intro r
        cases r with
        | cons r1 r2 =>
          cases r2
          exact ⟨[], _, rfl, .nil, r1⟩
      | cons d ds ih =>
        intro r
        cases r with
        | cons r1 r2 =>
          obtain ⟨ws, u, rfl, g1, g2⟩ := ih r2
          exact ⟨_ :: ws, u, rfl, .cons r1 g1, g2⟩
    obtain ⟨ws, u, rfl, g1, g2⟩ := sp r
    have fin : ∀ p us, u = .ref p → (SqL F.K H1 p us ∨ SqT F.K H1 p us) → RepL F.K (hd M H1) us es → spIS F.K C Pre Post (.ref x :: (ws ++ [u])) (upd (upd H1 dx (.own x)) x (.ins C dx [])) (fun v H2 => v = .non ∧ Q (.ref x) H2) E := fun p us eu hs hr => by
      subst eu
      exact ⟨M, H1, x, dx, ws, ds0, p, us, es, rfl, hx, hdx, ne, rfl, c1.al, g1, hs, hr, pre, fun H2 fs ps s rr => ⟨rfl, q _ _ H2 (po fs ps) (c1.same s) (e1.trans (StepB.of s)) rr⟩⟩
    rcases hl with rfl | rfl
    · cases g2 with
      | lst h1 h2 => exact fin _ _ rfl (.inl (SqL.of (hd_of h1).2)) h2
    · cases g2 with
      | tup h1 h2 => exact fin _ _ rfl (.inr (same_tup (same_hd M H1) h1)) h2
/-- C(e, xs), xs a list of one's own -/
theorem ev_makeO {Pre : List D → List D → Prop} {Post : List D → List D → List (Str × D) → Prop} {i : Nat} {p : Addr} {es : List D} (hi : δ[i]? = some (.own p (.lst es))) (h : Ev F te δ fun d => Pre [d] es ∧ ∀ fs, Post [d] es fs → P (.ins C fs)) :
    Ev F (tMake C (spIS F.K C Pre Post) [] E (tCons te (tCons (tVar i) tNil))) δ P := fun M σ H Q c q =>
  h M σ H _ c fun v d H1 p1 c1 e1 r => by
    obtain ⟨s, hs, e, m, ho, hp, rr⟩ := c1.sl i _ hi
    subst e
    cases rr with
    | @lst us _ rr =>
      refine ⟨_, hs, fun x dx hx hdx ne => ?_⟩
      exact ⟨M, H1, x, dx, [v], [d], p, us, es, rfl, hx, hdx, ne, rfl, c1.al, .cons r .nil, .inl (SqL.of hp), rr, p1.1, fun H2 fs ps s rr => ⟨rfl, q _ _ H2 (p1.2 fs ps) (c1.same s) (e1.trans (StepB.of s)) rr⟩⟩
/-- C(a = .., b = ..) -/
theorem ev_makeK {m : Nat} {gV : List V → List V → List V} {tk : TA} {Pre : List D → List D → Prop} {Post : List D → List D → List (Str × D) → Prop} {gD : List D → D × D} (hg : ∀ (H : Hp) (x : V) (zs : List V) (es : List D), RepL F.K H zs es → es.length = m → ∃ u w, gV [x] zs = [x, u, w] ∧ Rep F.K H u (gD es).1 ∧ Rep F.K H w (gD es).2)
    (h : EvA F tk δ fun es => es.length = m ∧ ∃ d l ls, gD es = (d, l) ∧ (l = .lst ls ∨ l = .tup ls) ∧ Pre [d] ls ∧ ∀ fs, Post [d] ls fs → P (.ins C fs)) :
    Ev F (tMakeK C 0 m (spIS F.K C Pre Post) gV E tNil tk) δ P := fun M σ H Q c q => by
  show tk σ H _
  refine h M σ H _ c fun zs es H1 p c1 e1 r => ?_
  obtain ⟨hm, d, l, ls, eg, hl, pre, po⟩ := p
  refine ⟨rfl, by rw [r.length, hm], fun x dx hx hdx ne => ?_⟩
  obtain ⟨u, w, ev, g1, g2⟩ := hg _ (.ref x) zs es r hm
  rw [ev]
  rw [eg] at g1 g2
  have fin : ∀ p us, w = .ref p → (SqL F.K H1 p us ∨ SqT F.K H1 p us) → RepL F.K (hd M H1) us ls → spIS F.K C Pre Post [.ref x, u, w] (upd (upd H1 dx (.own x)) x (.ins C dx [])) (fun v H2 => v = .non ∧ Q (.ref x) H2) E := fun p us eu hs hr => by
    subst eu
    exact ⟨M, H1, x, dx, [u], [d], p, us, ls, rfl, hx, hdx, ne, rfl, c1.al, .cons g1 .nil, hs, hr, pre, fun H2 fs ps s rr => ⟨rfl, q _ _ H2 (po fs ps) (c1.same s) (e1.trans (StepB.of s)) rr⟩⟩
  rcases hl with rfl | rfl
  · cases g2 with
    | lst h1 h2 => exact fin _ _ rfl (.inl (SqL.of (hd_of h1).2)) h2
  · cases g2 with
    | tup h1 h2 => exact fin _ _ rfl (.inr (same_tup (same_hd M H1) h1)) h2
end
/-! ### into an __init__ -/
def slotsI (N : List Str) (x : Addr) (C : Addr) (ds : List SD) : List SD := .own x (.ins C []) :: (ds ++ List.replicate (N.length - (ds.length + 1)) .un)
theorem al_of_none {M : Addr → Bool} {H : Hp} {p : Addr} (al : Al M H) (hp : H p = none) : M p = false := by
  cases e : M p with
  | true =>
    obtain ⟨u, h⟩ := al p e
    rw [hp] at h
    cases h
  | false => rfl
/-- what the slots behind the first bear -/
theorem ctxI {K : PySem.W.Frag} {M : Addr → Bool} {H1 : Hp} {x dx C : Addr} {E : XK} {N : List Str} {ws : List V} {sds : List SD} (hx : H1 x = none) (hdx : H1 dx = none) (ne : dx ≠ x) (al : Al M H1) (hl : ws.length = sds.length)
    (hs : ∀ (i : Nat) (y : SD), sds[i]? = some y → ∃ v, ws[i]? = some v ∧ SlotOk ⟨K, none, M, H1, E, 0, []⟩ (hid M x) (upd (upd H1 dx (.own x)) x (.ins C dx [])) (some v) y) (hn : ∀ (i : Nat) (p : Addr) (o : OD), sds[i]? ≠ some (.own p o)) :
    Ctx ⟨K, none, M, H1, E, 0, []⟩ (hid M x) (L2.start N (.ref x :: ws)) (upd (upd H1 dx (.own x)) x (.ins C dx [])) (slotsI N x C sds) := by
  have s1 := same_made (C := C) hx hdx
  have key : ∀ (i : Nat) (y : SD), (sds ++ List.replicate (N.length - (sds.length + 1)) .un)[i]? = some y → (∃ v, (ws.map some ++ List.replicate (N.length - (ws.length + 1)) none)[i]? = some v ∧ SlotOk ⟨K, none, M, H1, E, 0, []⟩ (hid M x) (upd (upd H1 dx (.own x)) x (.ins C dx [])) v y) ∧ ∀ p o, y ≠ .own p o := fun i y h => by
    by_cases hi : i < sds.length
    · rw [List.getElem?_append_left hi] at h
      obtain ⟨v, g1, g2⟩ := hs i y h
      refine ⟨⟨some v, ?_, g2⟩, fun p o e => hn i p o (e ▸ h)⟩
      rw [List.getElem?_append_left (by rw [List.length_map, hl]; exact hi), List.getElem?_map, g1]
      rfl
    · have hi := Nat.le_of_not_lt hi
      rw [List.getElem?_append_right hi] at h
      have hy : y = .un := List.eq_of_mem_replicate (List.mem_of_getElem? h)
      have hlt := (List.getElem?_eq_some_iff.mp h).1
      rw [List.length_replicate] at hlt
      subst hy
      refine ⟨⟨none, ?_, trivial⟩, fun p o e => by cases e⟩
      rw [List.getElem?_append_right (by rw [List.length_map, hl]; exact hi), List.length_map, hl, List.getElem?_replicate, if_pos hlt]
  refine ⟨fun a m => ?_, al, fun a m => hid_le a m, StepB.of s1, ⟨fun b z => (nomatch z), fun a h => (nomatch h)⟩, ?_, fun i y h => ?_, fun i j p o o' h1 h2 => ?_, fun i p o h => ?_⟩
  · by_cases e : a = x
    · subst e
      exact ⟨_, upd_same⟩
    · rw [hid_ne e] at m
      obtain ⟨o, h⟩ := al a m
      exact ⟨o, s1 _ _ h⟩
  · unfold L2.start slotsI
    simp only [List.length_append, List.length_cons, List.length_map, List.length_replicate, hl]
    omega
  · unfold slotsI at h
    unfold L2.start
    cases i with
    | zero =>
      have e : SD.own x (.ins C []) = y := by simpa using h
      subst e
      exact ⟨_, rfl, rfl, hid_same, _, upd_same, .ins .nil⟩
    | succ i =>
      obtain ⟨⟨v, g1, g2⟩, _⟩ := key i y (by simpa using h)
      exact ⟨v, by simpa using g1, g2⟩
  · unfold slotsI at h1 h2
    cases i with
    | zero =>
      cases j with
      | zero => rfl
      | succ j => exact absurd rfl ((key j _ (by simpa using h2)).2 _ _)
    | succ i => exact absurd rfl ((key i _ (by simpa using h1)).2 _ _)
  · unfold slotsI at h
    cases i with
    | zero =>
      have e : SD.own x (.ins C []) = .own p o := by simpa using h
      cases e
      exact ⟨hx, mv_none rfl rfl _⟩
    | succ i => exact absurd rfl ((key i _ (by simpa using h)).2 _ _)
theorem hid_mono {M : Addr → Bool} {H1 H : Hp} {x : Addr} (hx : H1 x = none) (s : Same H1 H) : Same (hd M H1) (hd (hid M x) H) := fun a o e => by
  obtain ⟨m, h⟩ := hd_of e
  exact hd_at (by rw [hid_ne (ne_of_none h hx)]; exact m) (s _ _ h)
section
variable {K : PySem.W.Frag} {N : List Str} {vs : List V} {H : Hp} {Q : VK} {E : XK} {t : TS} {C : Addr}
theorem leaveI {M M' : Addr → Bool} {H1 H' : Hp} {x : Addr} {σ' : L2.St} {δ' : List SD} {fs : List (Str × D)} (hx : H1 x = none) (al : Al M H1) (c' : Ctx ⟨K, none, M, H1, E, 0, []⟩ M' σ' H' δ') (h0 : δ'[0]? = some (.own x (.ins C fs))) :
    Same H1 H' ∧ Rep K (hd M H') (.ref x) (.ins C fs) := by
  refine ⟨fun a o h => c'.fr a o (mv_none rfl rfl a) h, ?_⟩
  obtain ⟨s, h1, e, m, ho, hp, r⟩ := c'.sl 0 _ h0
  exact (r.mono (same_hd_le fun a h => c'.m0 a h)).rep (hd_at (al_of_none al hx) hp)
theorem enterIS {Pre : List D → List D → Prop} {Post : List D → List D → List (Str × D) → Prop} (hs : spIS K C Pre Post vs H Q E)
    (hb : ∀ (M : Addr → Bool) (H1 : Hp) (x : Addr) (ds es : List D), Pre ds es → ds.length + 2 = vs.length → Do ⟨K, none, M, H1, E, 0, []⟩ t (slotsI N x C (ds.map .dat ++ [.sq es])) { nx := fun δ' => ∃ fs, δ'[0]? = some (.own x (.ins C fs)) ∧ Post ds es fs }) :
    t { nx := fun _ H' => Q .non H', rt := Q } (L2.start N vs) H := by
  obtain ⟨M, H1, x, dx, ws, ds, p, us, es, rfl, hx, hdx, ne, rfl, al, r, hq, rq, pre, q⟩ := hs
  have hl := r.length
  have s1 := same_made (C := C) hx hdx
  have c := ctxI (K := K) (E := E) (C := C) (N := N) (ws := ws ++ [.ref p]) (sds := ds.map .dat ++ [.sq es]) hx hdx ne al (by simp [hl]) (fun i y h => ?_) (fun i p o h => ?_)
  · refine hb M H1 x ds es pre (by simp [hl]) _ _ _ _ c (fun M' σ' H' δ' pp c' s => ?_) (fun v d M' σ' H' δ' pp => pp.elim) (fun _ _ _ _ p => p.elim) (fun _ _ _ _ p => p.elim)
    obtain ⟨fs, h0, po⟩ := pp
    obtain ⟨g1, g2⟩ := leaveI hx al c' h0
    exact q H' fs po g1 g2
  · by_cases hi : i < ds.length
    · rw [List.getElem?_append_left (by simpa using hi), List.getElem?_map] at h
      cases z : ds[i]? with
      | none => rw [z] at h; cases h
      | some d =>
        rw [z] at h
        cases h
        obtain ⟨v, g1, g2⟩ := r.get z
        exact ⟨v, by rw [List.getElem?_append_left (by rw [hl]; exact hi)]; exact g1, v, rfl, g2.mono (hid_mono hx s1)⟩
    · have hi := Nat.le_of_not_lt hi
      rw [List.getElem?_append_right (by simpa using hi)] at h
      simp only [List.length_map] at h
      have e0 : i - ds.length = 0 := by
        have := (List.getElem?_eq_some_iff.mp h).1
        simpa using this
      rw [e0] at h
      cases h
      refine ⟨.ref p, by rw [List.getElem?_append_right (by rw [hl]; exact hi), hl, e0]; rfl, p, us, rfl, mv_none rfl rfl _, hq, rq.mono (hid_mono hx s1)⟩
  · have := List.mem_of_getElem? h
    rcases List.mem_append.mp this with h | h
    · obtain ⟨d, _, e⟩ := List.mem_map.mp h
      cases e
    · have := List.mem_singleton.mp h
      cases this
end
end Pf

namespace Pf
open PySem L2 RZ PySem.Spec PyProof.Rows PySem.SeqAt
/-! ### len, bool, repr, == and != by defs of one's own -/
section
variable {M : Model} {prog : Program} {w : World} {A : Around} {E : Value → Shared → Prop} {s : Shared} {K : PySem.W.Frag} {x C f : Addr} {ox : Obj} {od : Option Obj} {b tb : Value}
theorem ifBound_ne {args : List Value} {Q : Option Value → Shared → Prop} (X : K.In s.heap) (I : PySem.W.InstAt s.heap x ox C od) (hs : PySem.W.findIn K (.ref C) "__ne__" = some (some (.builtin "object.__ne__")))
    (h : wpAny M A (call (.builtin "object.__ne__") (.ref x :: args)) (fun v => Q (some v)) E s) : wpAny M A (callSpecialIfBound? (.ref x) "__ne__" args) Q E s := by
  simp only [callSpecialIfBound?, bindSpecialIfBound?]
  refine wpAny_holding (wpAny_bind (wpAny_bind (wpAny_bind (I.type.here ((PySem.W.looks_findIn X hs).here ?_)))))
  refine wpAny_bind (wpAny_askSetting (wpAny_ite ?_))
  have fin : wpAny M A (call (.builtin "object.__ne__") ([.ref x] ++ args) >>= fun v => pure (some v)) Q E s := wpAny_bind (wpAny_mono h (fun v s' h' => wpAny_pure h') fun _ _ h' => h')
  split
  · exact wpAny_bind (wpAny_of_eq (F.cmp_object.ne.bind _) (wpAny_pure (by exact fin)))
  · exact wpAny_tryCatch (wpAny_bind (wpAny_of_eq (F.cmp_object.ne.bind _) (wpAny_pure (by exact fin))))
theorem entry_ne {Q : Fin → Shared → Prop} (hu : A.units < cLine) (X : K.In s.heap) (I : PySem.W.InstAt s.heap x ox C od) (hs : PySem.W.findIn K (.ref C) "__eq__" = some (some (.ref f))) (hf : PySem.W.isFn K (.ref f) = true)
    (h : wpAny (model prog w) A (call (.ref f) [.ref x, b]) (fun v s' => ∃ c, v = .bool c ∧ Q (.done (.ret (.bool (!c)))) s') E s) : wpAny (model prog w) A (Builtin.«object.__ne__» ⟨[.ref x, b], []⟩) Q E s := by
  unfold Builtin.«object.__ne__»
  refine wpAny_bind (m := slotArgs "__ne__" 1 _) (wpAny_pure ?_)
  refine wpAny_bind (wpAny_cRoomFor hu ?_)
  refine wpAny_bind (PySem.W.ifBound_K X I hs hf (wpAny_mono h (fun v s' hv => ?_) fun _ _ e => e))
  obtain ⟨c, rfl, q⟩ := hv
  exact wpAny_bind (wpAny_truthy_bool (wpAny_pure q))
theorem ne_K {Q : Value → Shared → Prop} (hu : A.units + 1 < cLine) (X : K.In s.heap) (I : PySem.W.InstAt s.heap x ox C od) (hb : PySem.W.Looks (model prog w) s.heap (typeOf b) tb) (hn : PySem.W.notFirst K C tb = true) (hm : PySem.W.mroIn K C (.type "object") = some true)
    (hne : PySem.W.findIn K (.ref C) "__ne__" = some (some (.builtin "object.__ne__"))) (hs : PySem.W.findIn K (.ref C) "__eq__" = some (some (.ref f))) (hf : PySem.W.isFn K (.ref f) = true)
    (h : wpAny (model prog w) A.in1 (call (.ref f) [.ref x, b]) (fun v s' => ∃ c, v = .bool c ∧ Q (.bool (!c)) s') E s) : wpAny (model prog w) A (richCompare .NotEq (.ref x) b) Q E s := by
  have one : wpAny (model prog w) A (tryCompare (.ref x) (cmpInfo .NotEq).2.1 b) (fun r s' => ∃ v, r = some v ∧ Q v s') E s := by
    unfold tryCompare
    refine wpAny_bind (ifBound_ne X I hne (wpAny_call (codeAny_call_builtin F.cmp_object.ne.plain F.cmpEntry_ne (PySem.W.check_slot F.cmpKind_ne F.cmpSplit_ne (I.type.andThen (PySem.W.looks_mroIn X hm)) (F.cmpArgs_ne _ _) (entry_ne (A := A.in1) hu X I hs hf (wpAny_mono h (fun v s' hv => ?_) fun _ _ e => e))))))
    obtain ⟨c, rfl, q⟩ := hv
    exact ⟨c, rfl, wpAny_pure ⟨_, rfl, q⟩⟩
  unfold richCompare
  simp only [oneThing_ref]
  refine wpAny_holding (wpAny_bind (wpAny_cRoomFor (Nat.lt_of_succ_lt hu) ?_))
  refine wpAny_bind (I.type.here (wpAny_bind (hb.here ?_)))
  split
  · rename_i q
    have e : PySem.W.subIn K tb (.ref C) = some false := by
      rcases Bool.or_eq_true_iff.mp hn with e | e
      · rw [beq_iff_eq.mp e] at q; simp at q
      · exact beq_iff_eq.mp e
    refine wpAny_bind ((PySem.W.looks_subIn X e).here ?_)
    simp only [Bool.false_eq_true, if_false]
    refine wpAny_bind (wpAny_mono one (fun r s' z => ?_) fun _ _ e => e)
    obtain ⟨v, rfl, hq⟩ := z
    exact wpAny_pure hq
  · refine wpAny_bind (wpAny_pure ?_)
    simp only [Bool.false_eq_true, if_false]
    refine wpAny_bind (wpAny_mono one (fun r s' z => ?_) fun _ _ e => e)
    obtain ⟨v, rfl, hq⟩ := z
    exact wpAny_pure hq
/-- bool(x) -/
theorem bool_K {Q : Value → Shared → Prop} (X : K.In s.heap) (I : PySem.W.InstAt s.heap x ox C od) (hs : PySem.W.findIn K (.ref C) "__bool__" = some (some (.ref f))) (hf : PySem.W.isFn K (.ref f) = true)
    (h : wpAny (model prog w) A.in1.in1 (call (.ref f) [.ref x]) (fun v s' => ∃ c, v = .bool c ∧ Q (.bool c) s') E s) : wpAny (model prog w) A (call (.type "bool") [.ref x]) Q E s := by
  refine callType_codes (T := "bool") (Bi := Builtin.«object.__init__») (Q₁ := fun r s₁ => ∃ c, r = .bool c ∧ Q r s₁) PySem.F.called_bool (PySem.F.typeCall_bool_1 _) PySem.F.entry_object_init ?_ ?_
  · refine codeAny_of_tree ?_
    show wpAny _ A.in1.in1 (do checkBuiltinCall "bool.__new__" ⟨[.type "bool", .ref x], []⟩; again (.builtin "bool.__new__" ⟨[.type "bool", .ref x], []⟩)) _ _ s
    refine wpAny_bind (wpAny_of_eq (PySem.F.newCall_bool_1 _) (wpAny_pure ⟨plainId_quiet (by decide +kernel) _, codeAny_builtin PySem.F.entry_bool_new ?_⟩))
    rw [Around.under_plainId (by decide +kernel) _]
    unfold Builtin.«bool.__new__»
    refine wpAny_bind (wpAny_of_eq (a := true) (by first | rfl | kernel_rfl) ?_)
    refine PySem.W.KFB.if_not rfl ?_
    refine wpAny_bind (wpAny_of_eq (a := true) F.conv_sub_bool ?_)
    refine PySem.W.KFB.if_not rfl ?_
    refine wpAny_bind (m := someArgs "bool" 0 1 _) (wpAny_pure ?_)
    refine wpAny_bind ?_
    unfold truthy
    refine wpAny_bind (m := callSpecial? (.ref x) (Str.ofString "__bool__")) (PySem.W.special_fn X I hs (beq_iff_eq.mp hf) (wpAny_mono h (fun r s' hr => ?_) fun _ _ y => y))
    obtain ⟨c, rfl, q⟩ := hr
    exact wpAny_pure (wpAny_pure ⟨c, rfl, q⟩)
  · rintro obj s₁ ⟨c, rfl, hq⟩
    exact ⟨rfl, PySem.F.args_object_init_2 _ _, object_init_meets PySem.F.called_bool.init.lookup PySem.F.called_bool.made (by decide) prog w A.in1 _ s₁ ⟨rfl, rfl, hq⟩⟩
end
/-! as rules of the layer -/
def rOwn1 (C : Addr) (sp : Sp) (E : XK) (ok : V → Prop) : List V → Hp → VK → Prop := fun xs H Q => ∃ a dx fs, xs = [.ref a] ∧ H a = some (.ins C dx fs) ∧ sp [.ref a] H (fun v H' => ok v ∧ Q v H') E
def okLen (v : V) : Prop := ∃ n : Int, v = .int n ∧ 0 ≤ n ∧ n < 2 ^ 63
def okStr (v : V) : Prop := ∃ z : Str, v = .str z
def okBl (v : V) : Prop := ∃ c : Bool, v = .bl c
def rEqOwn (K : PySem.W.Frag) (C : Addr) (sp : Sp) (E : XK) (neg : Bool) : R2 := fun x y H Q => ∃ a dx fs tb, x = .ref a ∧ H a = some (.ins C dx fs) ∧ TyX K H y tb ∧ PySem.W.notFirst K C tb = true ∧ sp [x, y] H (fun v H' => ∃ c, v = .bl c ∧ Q (.bl (if neg then !c else c)) H') E
section
variable {X : Cx} {CX : CXT} {n : Nat} {C g : Addr} {sp : Sp} {E : XK}
theorem call_lenOwn (hs : PySem.W.findIn X.K (.ref C) "__len__" = some (some (.ref g))) (hf : PySem.W.isFn X.K (.ref g) = true) (F : FnR X.prog X.w X.K X.mg X.base CX n g sp) (hr : Room (n + 1) X.A) (hx : Passes CX X E) : CallR X (.builtin "len") (rOwn1 C sp E okLen) := by
  intro pins s σ H xs us Q I r h
  obtain ⟨a, dx, fs, rfl, ea, q⟩ := h
  obtain ⟨u, rfl, ru⟩ := r.one
  cases (show u = Value.ref a from ru)
  obtain ⟨mA, O, _⟩ := ins_get I.hok ea
  obtain ⟨od, J, _⟩ := O.look
  obtain ⟨m, hF⟩ := I.fr
  refine PySem.W.len_K hF I.ok.mod.kin J hs hf (wpAny_mono (wpAny_call (SlX.run_at (us := [.ref a]) (ws := [.ref a]) F (Room.in1 hr) I.env0.in1 hx I (.cons rfl .nil) q)) (fun w s' z => ?_) fun _ _ x => x)
  obtain ⟨v, H', I', rv, ⟨i, rfl, h0, h1⟩, qv⟩ := z
  obtain ⟨t, rfl⟩ := (show ∃ t, w = Value.int i t from rv)
  exact ⟨⟨h0, h1⟩, .int i, H', I'.tok _, ⟨_, rfl⟩, qv⟩
theorem call_reprOwn (hu : X.A.units + 64 < cLine) (hs : PySem.W.findIn X.K (.ref C) "__repr__" = some (some (.ref g))) (hf : PySem.W.isFn X.K (.ref g) = true) (F : FnR X.prog X.w X.K X.mg X.base CX n g sp) (hr : Room (n + 1) X.A) (hx : Passes CX X E) : CallR X (.builtin "repr") (rOwn1 C sp E okStr) := by
  intro pins s σ H xs us Q I r h
  obtain ⟨a, dx, fs, rfl, ea, q⟩ := h
  obtain ⟨u, rfl, ru⟩ := r.one
  cases (show u = Value.ref a from ru)
  obtain ⟨mA, O, _⟩ := ins_get I.hok ea
  obtain ⟨od, J, _⟩ := O.look
  obtain ⟨m, hF⟩ := I.fr
  refine PySem.W.repr_K (by show X.A.units + 1 < cLine; omega) hF I.ok.mod.kin J hs hf (wpAny_mono (wpAny_call (SlX.run_at (us := [.ref a]) (ws := [.ref a]) F (Room.in1 hr) I.env0.in1 hx I (.cons rfl .nil) q)) (fun w s' z => ?_) fun _ _ x => x)
  obtain ⟨v, H', I', rv, ⟨i, rfl⟩, qv⟩ := z
  obtain ⟨t, rfl⟩ := (show ∃ t, w = Value.str i t from rv)
  exact ⟨.str i, H', I', ⟨_, rfl⟩, qv⟩
theorem call_boolOwn (hs : PySem.W.findIn X.K (.ref C) "__bool__" = some (some (.ref g))) (hf : PySem.W.isFn X.K (.ref g) = true) (F : FnR X.prog X.w X.K X.mg X.base CX n g sp) (hr : Room (n + 2) X.A) (hx : Passes CX X E) : CallR X (.type "bool") (rOwn1 C sp E okBl) := by
  intro pins s σ H xs us Q I r h
  obtain ⟨a, dx, fs, rfl, ea, q⟩ := h
  obtain ⟨u, rfl, ru⟩ := r.one
  cases (show u = Value.ref a from ru)
  obtain ⟨mA, O, _⟩ := ins_get I.hok ea
  obtain ⟨od, J, _⟩ := O.look
  have hr2 : Room n X.A.in1.in1 := (show Room (n + 1) X.A.in1 from Room.in1 hr).in1
  refine bool_K I.kIn J hs hf (wpAny_mono (wpAny_call (SlX.run_at (us := [.ref a]) (ws := [.ref a]) F hr2 I.env0.in1.in1 hx I (.cons rfl .nil) q)) (fun w s' z => ?_) fun _ _ x => x)
  obtain ⟨v, H', I', rv, ⟨i, rfl⟩, qv⟩ := z
  cases (show w = Value.bool i from rv)
  exact ⟨i, rfl, .bl i, H', I', rfl, qv⟩
theorem tyX_looks {M : Model} {pins : List (Addr × Obj)} {σ : L2.St} {H : Hp} {s : Shared} {y : V} {u t : Value} (I : Inv X pins σ H s) (ry : RelV y u) (ty : TyX X.K H y t) : PySem.W.Looks M s.heap (typeOf u) t := by
  obtain ⟨P, k, p⟩ := kit_of I ry ty
  exact k.ty M _ I.kIn p.1
theorem op_eqOwn (K : PySem.W.Frag) (hs : PySem.W.findIn X.K (.ref C) "__eq__" = some (some (.ref g))) (hf : PySem.W.isFn X.K (.ref g) = true) (F : FnR X.prog X.w X.K X.mg X.base CX n g sp) (hr : Room n X.A) (hx : Passes CX X E) (hK : X.K = K := by rfl) : OpR X (compareOp .Eq) (rEqOwn K C sp E false) := by
  subst hK
  intro pins s σ H x y v u Q I rx ry h
  obtain ⟨a, dx, fs, tb, rfl, ea, ty, hn, q⟩ := h
  cases (show v = Value.ref a from rx)
  obtain ⟨mA, O, _⟩ := ins_get I.hok ea
  obtain ⟨od, J, _⟩ := O.look
  obtain ⟨m, hF⟩ := I.fr
  show wpAny _ _ (richCompare .Eq _ _) _ _ _
  refine PySem.W.cmp_K (op := .Eq) (tb := tb) hr.units0 hF I.ok.mod.kin J (tyX_looks I ry ty) hn hs hf ?_
  refine wpAny_mono (wpAny_call (run_fnR (us := [.ref a, u]) (vs := [.ref a, y]) F hr hx I (.cons rfl (.cons ry .nil)) q)) (fun w s' z => ?_) fun _ _ x => x
  obtain ⟨z', H', I', rz, c, rfl, qz⟩ := z
  cases (show w = Value.bool c from rz)
  exact ⟨.bl c, H', I', rfl, qz⟩
theorem op_neOwn (K : PySem.W.Frag) (hu : X.A.units + 64 < cLine) (hm : PySem.W.mroIn X.K C (.type "object") = some true) (hne : PySem.W.findIn X.K (.ref C) "__ne__" = some (some (.builtin "object.__ne__"))) (hs : PySem.W.findIn X.K (.ref C) "__eq__" = some (some (.ref g))) (hf : PySem.W.isFn X.K (.ref g) = true)
    (F : FnR X.prog X.w X.K X.mg X.base CX n g sp) (hr : Room (n + 1) X.A) (hx : Passes CX X E) (hK : X.K = K := by rfl) : OpR X (compareOp .NotEq) (rEqOwn K C sp E true) := by
  subst hK
  intro pins s σ H x y v u Q I rx ry h
  obtain ⟨a, dx, fs, tb, rfl, ea, ty, hn, q⟩ := h
  cases (show v = Value.ref a from rx)
  obtain ⟨mA, O, _⟩ := ins_get I.hok ea
  obtain ⟨od, J, _⟩ := O.look
  show wpAny _ _ (richCompare .NotEq _ _) _ _ _
  refine ne_K (tb := tb) (by omega) I.kIn J (tyX_looks I ry ty) hn hm hne hs hf ?_
  refine wpAny_mono (wpAny_call (SlX.run_at (us := [.ref a, u]) (ws := [.ref a, y]) F (Room.in1 hr) I.env0.in1 hx I (.cons rfl (.cons ry .nil)) q)) (fun w s' z => ?_) fun _ _ x => x
  obtain ⟨z', H', I', rz, c, rfl, qz⟩ := z
  cases (show w = Value.bool c from rz)
  exact ⟨c, rfl, .bl (!c), H', I', rfl, qz⟩
end
/-! on data -/
/-- what of its class an instance is asked -/
structure ClsF (K : PySem.W.Frag) (C : Addr) : Prop where
  cl : Cls K C
  ca : PySem.W.findIn K (.ref C) "__class__" = some (some (.builtin "object.__class__"))
  cn : PySem.W.specialIn K (.builtin "object.__class__") "__get__" = some (some (.builtin "getset_descriptor.__get__"))
  ct : PySem.W.takesIn K (.builtin "object.__class__") = some true
  cm : PySem.W.mroIn K C (.type "object") = some true
theorem ClsF.ty {K : PySem.W.Frag} {C a dx : Addr} {H : Hp} {fs : List (Str × V)} (c : ClsF K C) (e : H a = some (.ins C dx fs)) : TyX K H (.ref a) (.ref C) := .base (.ins e c.cl c.ca c.cn c.ct c.cm)
section
variable {K : PySem.W.Frag} {C : Addr} {E : XK} {Pre : List D → Prop} {Post : List D → D → Prop} {P : D → Prop} {fs gs : List (Str × D)} {y : D}
theorem rep_ins {H : Hp} {v : V} (r : Rep K H v (.ins C fs)) : ∃ a dx us, v = .ref a ∧ H a = some (.ins C dx us) := by
  cases r with
  | @ins a _ dx us _ h1 rr => exact ⟨a, dx, us, rfl, h1⟩
theorem cd_lenOwn (pre : Pre [.ins C fs]) (po : ∀ d, Post [.ins C fs] d → ∃ n : Int, d = .int n ∧ 0 ≤ n ∧ n < 2 ^ 63 ∧ P d) : CallD K (rOwn1 C (spD K Pre Post) E okLen) [.ins C fs] P := fun M H vs Q al r q => by
  cases r with
  | cons r1 r2 =>
    cases r2
    obtain ⟨a, dx, us, rfl, h1⟩ := rep_ins r1
    refine ⟨a, dx, us, rfl, (hd_of h1).2, M, _, al, .cons r1 .nil, pre, fun v d H' pd s rv => ?_⟩
    obtain ⟨n, rfl, h0, h1, pp⟩ := po d pd
    cases rv
    exact ⟨⟨n, rfl, h0, h1⟩, q _ _ H' pp s (.int n)⟩
theorem cd_reprOwn (pre : Pre [.ins C fs]) (po : ∀ d, Post [.ins C fs] d → ∃ z : Str, d = .str z ∧ P d) : CallD K (rOwn1 C (spD K Pre Post) E okStr) [.ins C fs] P := fun M H vs Q al r q => by
  cases r with
  | cons r1 r2 =>
    cases r2
    obtain ⟨a, dx, us, rfl, h1⟩ := rep_ins r1
    refine ⟨a, dx, us, rfl, (hd_of h1).2, M, _, al, .cons r1 .nil, pre, fun v d H' pd s rv => ?_⟩
    obtain ⟨n, rfl, pp⟩ := po d pd
    cases rv
    exact ⟨⟨n, rfl⟩, q _ _ H' pp s (.str n)⟩
theorem cd_boolOwn (pre : Pre [.ins C fs]) (po : ∀ d, Post [.ins C fs] d → ∃ c : Bool, d = .bl c ∧ P d) : CallD K (rOwn1 C (spD K Pre Post) E okBl) [.ins C fs] P := fun M H vs Q al r q => by
  cases r with
  | cons r1 r2 =>
    cases r2
    obtain ⟨a, dx, us, rfl, h1⟩ := rep_ins r1
    refine ⟨a, dx, us, rfl, (hd_of h1).2, M, _, al, .cons r1 .nil, pre, fun v d H' pd s rv => ?_⟩
    obtain ⟨n, rfl, pp⟩ := po d pd
    cases rv
    exact ⟨⟨n, rfl⟩, q _ _ H' pp s (.bl n)⟩
theorem od_eqOwn {neg : Bool} {tb : Value} (ty : ∀ (H : Hp) (w : V), Rep K H w y → TyX K H w tb) (hn : PySem.W.notFirst K C tb = true) (pre : Pre [.ins C fs, y]) (po : ∀ d, Post [.ins C fs, y] d → ∃ c : Bool, d = .bl c ∧ P (.bl (if neg then !c else c))) :
    OpD K (rEqOwn K C (spD K Pre Post) E neg) (.ins C fs) y P := fun M H v w Q al r1 r2 q => by
  obtain ⟨a, dx, us, rfl, h1⟩ := rep_ins r1
  refine ⟨a, dx, us, tb, rfl, (hd_of h1).2, ty _ _ (r2.mono (same_hd M H)), hn, M, _, al, .cons r1 (.cons r2 .nil), pre, fun u d H' pd s rv => ?_⟩
  obtain ⟨c, rfl, pp⟩ := po d pd
  cases rv
  exact ⟨c, rfl, q _ _ H' pp s (.bl _)⟩
theorem ty_ins (c : ClsF K C) : ∀ (H : Hp) (w : V), Rep K H w (.ins C gs) → TyX K H w (.ref C) := fun H w r => by
  obtain ⟨a, dx, us, rfl, h1⟩ := rep_ins r
  exact c.ty h1
theorem ty_name {n : String} (h : tyName y = some n) : ∀ (H : Hp) (w : V), Rep K H w y → TyX K H w (.type n) := fun H w r => tyX_of r h
theorem cd_isiC {tb : Value} {b : Bool} (ty : ∀ (H : Hp) (w : V), Rep K H w y → TyX K H w tb) (hk : PySem.W.kitOne K tb (.ref C) = some b) (p : P (.bl b)) : CallD K (rIsi K) [y, .adr C] P := fun M H vs Q al r q => by
  cases r with
  | cons r1 r2 =>
    cases r2 with
    | cons r2 r3 =>
      cases r3
      cases r2
      exact ⟨_, _, tb, .ref C, b, rfl, .own C, ty _ _ (r1.mono (same_hd M H)), hk, q _ _ H p (Same.refl H) (.bl b)⟩
end
/-! methods and properties -/
section
variable {F : Fm} {δ : List SD} {ta : TA} {te : TE} {P : D → Prop} {C : Addr} {m : Str} {Pre : List D → Prop} {Post : List D → D → Prop} {E : XK}
theorem ev_meth (h : Ev F te δ fun x => ∃ fs, x = .ins C fs ∧ fs.lookup m = none ∧ EvA F ta δ fun ds => Pre (x :: ds) ∧ ∀ d, Post (x :: ds) d → P d) : Ev F (tMeth C m (spD F.K Pre Post) [] E te ta) δ P := fun M σ H Q c q =>
  h M σ H _ c fun v x H1 p1 c1 e1 r1 => by
    obtain ⟨fs, rfl, hm, p1⟩ := p1
    have hr := r1
    cases r1 with
    | @ins a _ dx us _ h1 rr =>
      refine ⟨a, dx, us, rfl, (hd_of h1).2, rr.none hm, ?_⟩
      refine p1 M σ H1 _ c1 fun vs ds H2 p2 c2 e2 r2 => ?_
      rw [List.append_nil]
      exact ⟨M, _, c2.al, .cons (hr.mono (hd_step c1 e2)) r2, p2.1, fun v d H3 pd s r3 => q v d H3 (p2.2 d pd) (c2.same s) ((e1.trans e2).trans (StepB.of s)) r3⟩
theorem ev_prop (h : Ev F te δ fun x => ∃ fs, x = .ins C fs ∧ Pre [x] ∧ ∀ d, Post [x] d → P d) : Ev F (tProp C (spD F.K Pre Post) [] E te) δ P := fun M σ H Q c q =>
  h M σ H _ c fun v x H1 p1 c1 e1 r1 => by
    obtain ⟨fs, rfl, pre, po⟩ := p1
    have hr := r1
    cases r1 with
    | @ins a _ dx us _ h1 rr =>
      exact ⟨a, dx, us, rfl, (hd_of h1).2, M, _, c1.al, .cons hr .nil, pre, fun v d H3 pd s r3 => q v d H3 (po d pd) (c1.same s) (e1.trans (StepB.of s)) r3⟩
/-- a method that makes a new list -/
def spN (K : PySem.W.Frag) (Pre : List D → Prop) (Post : List D → List D → Prop) : Sp := fun vs H Q _ => ∃ (M : Addr → Bool) (ds : List D), Al M H ∧ RepL K (hd M H) vs ds ∧ Pre ds ∧
  ∀ p us es H', Post ds es → H p = none → Same H H' → H' p = some (.lst us) → RepL K (hd (hid M p) H') us es → Q (.ref p) H'
/-- p, new, is hidden -/
theorem Ctx.take {M : Addr → Bool} {σ : L2.St} {H H' : Hp} (c : Ctx F M σ H δ) {p : Addr} {us : List V} (hp : H p = none) (s : Same H H') (h : H' p = some (.lst us)) : Ctx F (hid M p) σ H' δ := by
  have c' := c.same s
  have ne : ∀ a, F.M0 a = true → a ≠ p := fun a m e => by
    subst e
    obtain ⟨o, h⟩ := c.al0 _ m
    have := c.h0 hp
    rw [h] at this
    cases this
  refine ⟨fun a m => ?_, c.al0, fun a m => hid_le a (c.m0 a m), c'.fr, c'.bg, c.ln, fun i x hx => ?_, c.dj, c.oh⟩
  · by_cases e : a = p
    · subst e
      exact ⟨_, h⟩
    · rw [hid_ne e] at m
      exact c'.al a m
  · have hs : Same (hd M H) (hd (hid M p) H') := hid_mono hp s
    obtain ⟨y, h1, h2⟩ := c.sl i x hx
    refine ⟨y, h1, ?_⟩
    cases x with
    | un => trivial
    | dat d =>
      obtain ⟨v, e, r⟩ := h2
      exact ⟨v, e, r.mono hs⟩
    | own q ds =>
      obtain ⟨e, m, vs, h3, r⟩ := h2
      exact ⟨e, hid_le q m, vs, s _ _ h3, r.mono hs⟩
    | bag => exact h2
    | sq ds =>
      obtain ⟨q, vs, g1, g2, g3, g4⟩ := h2
      exact ⟨q, vs, g1, g2, g3, g4.mono hs⟩
    | sl ds =>
      obtain ⟨q, vs, g1, g2, g3, g4⟩ := h2
      exact ⟨q, vs, g1, g2, g3, g4.mono hs⟩
theorem en_meth {PostN : List D → List D → Prop} {PL : List D → Prop} (h : Ev F te δ fun x => ∃ fs, x = .ins C fs ∧ fs.lookup m = none ∧ EvA F ta δ fun ds => Pre (x :: ds) ∧ ∀ d, PostN (x :: ds) d → PL d) : EvN F (tMeth C m (spN F.K Pre PostN) [] E te ta) δ PL := fun M σ H Q c q =>
  h M σ H _ c fun v x H1 p1 c1 e1 r1 => by
    obtain ⟨fs, rfl, hm, p1⟩ := p1
    have hr := r1
    cases r1 with
    | @ins a _ dx us _ h1 rr =>
      refine ⟨a, dx, us, rfl, (hd_of h1).2, rr.none hm, ?_⟩
      refine p1 M σ H1 _ c1 fun vs ds H2 p2 c2 e2 r2 => ?_
      rw [List.append_nil]
      refine ⟨M, _, c2.al, .cons (hr.mono (hd_step c1 e2)) r2, p2.1, fun p us es H3 pd hp s h3 r3 => ?_⟩
      have hp0 : H p = none := by
        cases z : H p with
        | none => rfl
        | some o =>
          have := (e1.trans e2) p o (c2.nob hp) z
          rw [hp] at this
          cases this
      exact q p us es H3 (p2.2 es pd) (c2.take hp s h3) hp0 (c2.h0 hp) (c2.nob hp) (c2.nown hp) ((e1.trans e2).trans (StepB.of s)) h3 r3
/-- a new list that nobody holds is changed: nothing is seen of it -/
theorem do_dropAppend {R : PD} {tx : TE} {PL : List D → Prop} (h : EvN F te δ PL) (hl : ∀ ds, PL ds → ds.length < 100000) (hx : Ev F tx δ fun _ => R.nx δ) : Do F (tDrop (tBM F.K "list" rAppend te (tCons tx tNil))) δ R := fun M σ H E c a b k d => by
  refine h M σ H _ c fun p vs ds H1 pd c1 hp h0 hb no e h1 r => ?_
  refine ⟨.inl ⟨rfl, vs, SqL.of h1⟩, ?_⟩
  refine hx (hid M p) σ H1 _ c1 fun v x H2 px c2 e2 r2 => ?_
  have h2 := e2 p _ hb h1
  refine ⟨p, vs, v, rfl, rfl, h2, by rw [r.length]; exact sz_lt (hl ds pd), ?_⟩
  have c3 := c2.poke (ys := .lst (vs ++ [v])) hid_same h2 h0 hb no
  have m := al_none c.al hp
  have c4 := c3.show' m h0 no
  refine a M σ _ δ px c4 (fun x o q => ?_)
  obtain ⟨mx, hx'⟩ := hd_of q
  have nx : x ≠ p := ne_of_none hx' hp
  have nb : ¬ F.mv x := fun z => by
    have := c.m0 x (z.elim (fun z => (c.bg.1 x z).1) fun z => (c.bg.2 x z).1)
    rw [mx] at this
    cases this
  exact hd_at mx (by rw [upd_ne nx]; exact e2 x o nb (e x o nb hx'))
theorem do_dropClear {R : PD} {PL : List D → Prop} (h : EvN F te δ PL) (hx : R.nx δ) : Do F (tDrop (tBM0 F.K "list" rClear te)) δ R := fun M σ H E c a b k d => by
  refine h M σ H _ c fun p vs ds H1 pd c1 hp h0 hb no e h1 r => ?_
  refine ⟨.inl ⟨rfl, vs, SqL.of h1⟩, p, vs, rfl, rfl, h1, ?_⟩
  have c3 := c1.poke (ys := .lst []) hid_same h1 h0 hb no
  have m := al_none c.al hp
  have c4 := c3.show' m h0 no
  refine a M σ _ δ hx c4 (fun x o q => ?_)
  obtain ⟨mx, hx'⟩ := hd_of q
  have nx : x ≠ p := ne_of_none hx' hp
  have nb : ¬ F.mv x := fun z => by
    have := c.m0 x (z.elim (fun z => (c.bg.1 x z).1) fun z => (c.bg.2 x z).1)
    rw [mx] at this
    cases this
  exact hd_at mx (by rw [upd_ne nx]; exact e x o nb hx')
end
section
variable {K : PySem.W.Frag} {N : List Str} {vs : List V} {H : Hp} {Q : VK} {E : XK} {te : TE} {t : TS} {Pre : List D → Prop} {Post : List D → List D → Prop}
theorem enterN (hs : spN K Pre Post vs H Q E) (hb : ∀ (M : Addr → Bool) (ds : List D), Pre ds → ds.length = vs.length → Do ⟨K, none, M, H, E, 0, []⟩ t (slots N ds) { nx := fun δ' => EvN ⟨K, none, M, H, E, 0, []⟩ te δ' (Post ds) }) :
    tSeq t (tRet te) { nx := fun _ H' => Q .non H', rt := Q } (L2.start N vs) H := by
  obtain ⟨M, ds, al, r, pre, q⟩ := hs
  have hl := r.length
  have c : Ctx ⟨K, none, M, H, E, 0, []⟩ M (L2.start N vs) H (slots N ds) := by
    refine ⟨al, al, fun _ h => h, StepB.refl _ _, ⟨fun b z => (nomatch z), fun a h => (nomatch h)⟩, ?_, ?_, fun i j p es fs h1 h2 => absurd h1 no_own, fun i p es h => absurd h no_own⟩
    · unfold L2.start slots
      rw [List.length_append, List.length_append, List.length_map, List.length_map, List.length_replicate, List.length_replicate, hl]
    · unfold L2.start slots
      rw [hl]
      exact sl_base rfl _ r
  refine hb M ds pre hl.symm M _ H _ c (fun M' σ' H' δ' p c' s => ?_) (fun _ _ _ _ _ _ p => p.elim) (fun _ _ _ _ p => p.elim) (fun _ _ _ _ p => p.elim)
  refine p M' σ' H' _ c' fun p' us es H2 pd c2 hp h0 hb' no e h1 r2 => ?_
  have h0' : H p' = none := h0
  refine q p' us es H2 pd h0' (fun a o h => c2.fr a o (mv_none rfl rfl a) h) h1 (r2.mono (same_hd_le fun a h => ?_))
  by_cases ea : a = p'
  · subst ea
    exact hid_same
  · rw [hid_ne ea] at h ⊢
    exact c'.m0 a h
theorem enterN1 (hs : spN K Pre Post vs H Q E) (hb : ∀ (M : Addr → Bool) (ds : List D), Pre ds → ds.length = vs.length → EvN ⟨K, none, M, H, E, 0, []⟩ te (slots N ds) (Post ds)) :
    tRet te { nx := fun _ H' => Q .non H', rt := Q } (L2.start N vs) H := by
  have := enterN (t := tNext) (te := te) hs (fun M ds pre hl => do_next (hb M ds pre hl))
  exact this
end
end Pf

namespace Pf
open PySem L2 RZ
/-! ### the layer's rules with the written part K named: in a comprehension's block its name would be the block's -/
section
variable {X : Cx} {tg e e2 o value : Expr} {te to ta tv : TE} {t : TA} {pos p apos cpos : Pos}
theorem ixL (K : PySem.W.Frag) (h : X.K = K := by rfl) : IxR X (rIxL K) := by subst h; exact ix_list
theorem ixT (K : PySem.W.Frag) (h : X.K = K := by rfl) : IxR X (rIxT K) := by subst h; exact ix_tup
theorem ixA (K : PySem.W.Frag) (h : X.K = K := by rfl) : IxR X (rIx K) := by subst h; exact ix_seq
theorem slL (K : PySem.W.Frag) (h : X.K = K := by rfl) : SlR X (rSlL K) := by subst h; exact sl_list
theorem slT (K : PySem.W.Frag) (h : X.K = K := by rfl) : SlR X (rSlT K) := by subst h; exact sl_tup
def rLenK (K : PySem.W.Frag) : List V → Hp → VK → Prop := fun xs H Q => ∃ x n, xs = [x] ∧ LenV K x H n ∧ Q (.int (n : Nat)) H
theorem callLen (K : PySem.W.Frag) (h : X.K = K := by rfl) : CallR X (.builtin "len") (rLenK K) := by subst h; exact call_len
theorem callIsi (K : PySem.W.Frag) (h : X.K = K := by rfl) : CallR X (.builtin "isinstance") (rIsi K) := by subst h; exact call_isi
theorem callIsiT (K : PySem.W.Frag) (h : X.K = K := by rfl) : CallR X (.builtin "isinstance") (rIsiT K) := by subst h; exact call_isiT
def rListK (K : PySem.W.Frag) : List V → Hp → VK → Prop := fun xs H Q => ∃ p ys, xs = [.ref p] ∧ (SqL K H p ys ∨ SqT K H p ys) ∧ ∀ l, H l = none → Q (.ref l) (upd H l (.lst ys))
theorem callList (K : PySem.W.Frag) (h : X.K = K := by rfl) : CallR X (.type "list") (rListK K) := by subst h; exact call_list_of
def rTupleK (K : PySem.W.Frag) : List V → Hp → VK → Prop := fun xs H Q => ∃ p ys, xs = [.ref p] ∧ ((SqL K H p ys ∧ ∀ l, H l = none → Q (.ref l) (upd H l (.tup ys))) ∨ (SqT K H p ys ∧ Q (.ref p) H))
theorem callTuple (K : PySem.W.Frag) (h : X.K = K := by rfl) : CallR X (.type "tuple") (rTupleK K) := by subst h; exact call_tuple_of
theorem callAll (K : PySem.W.Frag) (hc : X.calm = true := by rfl) (h : X.K = K := by rfl) : CallR X (.builtin "all") (rAll K) := by subst h; exact cr_all hc
theorem callAny (K : PySem.W.Frag) (hc : X.calm = true := by rfl) (h : X.K = K := by rfl) : CallR X (.builtin "any") (rAny K) := by subst h; exact cr_any hc
theorem opIn (K : PySem.W.Frag) (h : X.K = K := by rfl) : OpR X (compareOp .In) (rIn K false) := by subst h; exact op_in_seq
theorem opNotIn (K : PySem.W.Frag) (h : X.K = K := by rfl) : OpR X (compareOp .NotIn) (rIn K true) := by subst h; exact op_notIn_seq
theorem opEqD (K : PySem.W.Frag) (hu : X.A.units + 64 < cLine) (h : X.K = K := by rfl) : OpR X (compareOp .Eq) (rEqD K) := by subst h; exact op_eqD hu
theorem opNeD (K : PySem.W.Frag) (hu : X.A.units + 64 < cLine) (h : X.K = K := by rfl) : OpR X (compareOp .NotEq) (rNeD K) := by subst h; exact op_neD hu
theorem piL (K : PySem.W.Frag) (hl : PE X e te) (h : X.K = K := by rfl) : PI X tg e (iList K te) := by subst h; exact pi_list hl
theorem piT (K : PySem.W.Frag) (hl : PE X e te) (h : X.K = K := by rfl) : PI X tg e (iTup K te) := by subst h; exact pi_tup hl
theorem pgTup (K : PySem.W.Frag) {es : List Expr} {k : Nat} {ts : TGs} {n : Nat} (hc : X.calm = true) (hh : PGs X es ts)
    (hn : (assignEach es X.env).length = n := by rfl) (hst : (assignEach es X.env).findIdx? (·.1) = none := by rfl) (h : X.K = K := by rfl) : PG X (.Tuple es k pos) (gTup K n ts) := by subst h; exact pg_tup hc hh hn hst
theorem peFld (K : PySem.W.Frag) {f : Str} (he : PE X e te) (hb : attributeBase e f X.env (eval e X.env) = eval e X.env) (h : X.K = K := by rfl) : PE X (.Attribute e f pos) (tFld K te f) := by subst h; exact pe_fld he hb
end
/-! ### a call by keywords alone -/
section
variable {X : Cx} {CX : CXT} {k : Nat} {f : Addr} {fd : FuncData} {ps ks : List Str} {sp : Sp} {E : XK} {x : Str} {p pos : Pos} {kws : List Keyword} {tk : TA} {g : List Value → List Value → List Value} {gV : List V → List V → List V}
theorem pe_callK0 (F : FnOk X.prog X.w X.K X.mg X.base CX k f fd ps sp) (hr : Room k X.A) (hg : Gl X x) (hm : X.mg x = some (.ref f)) (hk : PySem.W.keepIn X.K (.ref f) = true) (hb : KBinds X.K fd ps ks g gV) (hx : Passes CX X E)
    (hkw : PK X kws tk) (hall : (backToKw pos (keywordEach kws X.env)).all (·.1.isSome) = true := by rfl) (hks : (backToKw pos (keywordEach kws X.env)).filterMap (·.1) = ks := by rfl)
    (hdb : (x == ("__debug__" : Str)) = false := by decide)
    (hpl : ((backTo pos (starEach [] X.env)).any (·.1) || (backToKw pos (keywordEach kws X.env)).any (·.1.isNone)) = false := by rfl) :
    PE X (.Call (.Name x p) [] kws pos) (tCallK sp gV E tNil tk) := by
  refine ⟨fun pins s σ H Q I h => ?_⟩
  refine wpAny_Call_Name_kw (ld_glob I hg hm ?_ hdb)
  refine PySem.W.callWith_KW0 (h₀ := X.base) I.ok.mod.kin hk hall ?_ hpl
  refine thn (hkw.run pos pins s σ H _ I h) fun ws s2 ⟨zs, H2, I2, rz, q2⟩ => ⟨I2.kIn, ?_⟩
  rw [hks]
  exact run_fnk (us := []) (vs := []) F hr hb hx I2 .nil rz q2
end
section
variable {F : Fm} {δ : List SD} {ta tk : TA} {P : D → Prop} {Pre : List D → Prop} {Post : List D → D → Prop} {E : XK} {gV : List V → List V → List V} {gD : List D → List D → List D}
theorem ev_callK (hg : ∀ (H : Hp) (vs zs : List V) (ds es : List D), RepL F.K H vs ds → RepL F.K H zs es → RepL F.K H (gV vs zs) (gD ds es))
    (h : EvA F ta δ fun ds => EvA F tk δ fun es => Pre (gD ds es) ∧ ∀ d, Post (gD ds es) d → P d) : Ev F (tCallK (spD F.K Pre Post) gV E ta tk) δ P := fun M σ H Q c q =>
  h M σ H _ c fun vs ds H1 p c1 e1 r => p M σ H1 _ c1 fun zs es H2 p2 c2 e2 r2 =>
    ⟨M, gD ds es, c2.al, hg _ _ _ _ _ (r.mono (hd_step c1 e2)) r2, p2.1, fun v d H3 pd s r3 => q v d H3 (p2.2 d pd) (c2.same s) ((e1.trans e2).trans (StepB.of s)) r3⟩
end
section
variable {K : PySem.W.Frag} {P : D → Prop} {x : D} {F : Fm} {δ : List SD} {te : TE}
theorem cd_lenK {k : Nat} (h : lenD x = some k) (hz : k ≤ 100000) (p : P (.int (k : Int))) : CallD K (rLenK K) [x] P := cd_len h hz p
/-- list(x): a new list of the same items -/
theorem en_listOf {PL : List D → Prop} (h : Ev F te δ fun d => ∃ xs, (d = .lst xs ∨ d = .tup xs) ∧ PL xs) : EvN F (tCB (rListK F.K) (tCons te tNil)) δ PL := fun M σ H Q c q =>
  h M σ H _ c fun v d H1 p c1 e1 r => by
    obtain ⟨xs, hd', pz⟩ := p
    have key : ∀ (a : Addr) (vs : List V), (SqL F.K H1 a vs ∨ SqT F.K H1 a vs) → RepL F.K (hd M H1) vs xs → rListK F.K [.ref a] H1 Q := fun a vs hs hr => by
      refine ⟨a, vs, rfl, hs, fun p hp => ?_⟩
      have hp0 : H p = none := by
        cases z : H p with
        | none => rfl
        | some o =>
          have := e1 p o (c1.nob hp) z
          rw [hp] at this
          cases this
      refine q p vs xs _ pz (c1.hide hp) hp0 (c1.h0 hp) (c1.nob hp) (c1.nown hp) (e1.trans (StepB.of (same_new hp))) upd_same (hr.mono fun b u e => ?_)
      obtain ⟨m, h⟩ := hd_of e
      have n : b ≠ p := ne_of_none h hp
      exact hd_at (by rw [hid_ne n]; exact m) (by rw [upd_ne n]; exact h)
    rcases hd' with rfl | rfl
    · cases r with
      | lst h1 h2 => exact key _ _ (.inl (SqL.of (hd_of h1).2)) h2
    · cases r with
      | tup h1 h2 => exact key _ _ (.inr (same_tup (same_hd M H1) h1)) h2
end
end Pf

namespace Pf
open PySem L2 RZ PySem.Spec PyProof.Rows
/-! ### a sequence that is borrowed, walked and asked -/
/-- a list or a tuple -/
def iSeq (K : PySem.W.Frag) (tl : TE) : TI := fun σ H R => tl σ H fun x H1 => ∃ a xs, x = .ref a ∧ ((SqL K H1 a xs ∧ R (Itl K a) H1) ∨ (SqT K H1 a xs ∧ R (Itt K a) H1))
theorem piS {X : Cx} {tg l : Expr} {tl : TE} (K : PySem.W.Frag) (hl : PE X l tl) (hK : X.K = K := by rfl) : PI X tg l (iSeq K tl) := by
  subst hK
  refine ⟨fun pins s σ H R I h => ?_⟩
  refine thn (hl.run pins s σ H _ I h) fun v s1 ⟨x, H1, I1, r1, q1⟩ => ?_
  obtain ⟨a, xs, e, q⟩ := q1
  subst e
  cases r1
  have fp : ∀ b ∈ [s1.heap.objs.size], _ := fun b hb => by
    have e : b = s1.heap.objs.size := by simpa using hb
    subst e
    exact I1.fpOk (Nat.le_refl _) (I1.hok.fresh (Nat.le_refl _))
  rcases q with ⟨hq, q⟩ | ⟨hq, q⟩
  · obtain ⟨its, rv, p, hz⟩ := I1.list hq
    refine wpAny_pyIter_list p.isList ?_
    exact ⟨s1.heap.objs.size, [s1.heap.objs.size], _, _, H1, rfl, I1.kept (t' := s1.toks) fun b o e => Heap.get?_push_of_some _ e, turn_list a _, ⟨_, Heap.get?_push_size _ rfl, rfl, rfl⟩, fp, q⟩
  · obtain ⟨its, rv, p, hz⟩ := I1.tuple hq
    refine wpAny_pyIter_tuple (show s1.heap.IsTuple a its.toArray from p) ?_
    exact ⟨s1.heap.objs.size, [s1.heap.objs.size], _, _, H1, rfl, I1.kept (t' := s1.toks) fun b o e => Heap.get?_push_of_some _ e, turn_tuple a _, ⟨_, Heap.get?_push_size _ rfl, rfl, rfl⟩, fp, q⟩
section
variable {F : Fm} {δ : List SD} {M : Addr → Bool} {σ : L2.St} {H : Hp} {PX : List D → Prop} {ta : TA} {te : TE} {P : D → Prop}
theorem stepH0 (c : Ctx F M σ H δ) : StepB F.mv F.H0 H := c.fr
theorem walkD_sqL {a : Addr} {xs : List V} {ds : List D} (k : ∀ H', StepB F.mv F.H0 H' → SqL F.K H' a xs) (r : RepL F.K (hd M H) xs ds) : WalkD F (Itl F.K a) M H ds := by
  refine ⟨fun H => SqL F.K H a xs, YAt xs, by rw [← r.length]; exact walk_list, fun M2 H2 _ e => k H2 e, fun M2 H2 i x H3 al e y => ?_⟩
  obtain ⟨rfl, y⟩ := y
  obtain ⟨d, h1, h2⟩ := r.getV y
  exact ⟨Same.refl _, d, h1, h2.mono e⟩
theorem walkD_sqT {a : Addr} {xs : List V} {ds : List D} (k : ∀ H', StepB F.mv F.H0 H' → SqT F.K H' a xs) (r : RepL F.K (hd M H) xs ds) : WalkD F (Itt F.K a) M H ds := by
  refine ⟨fun H => SqT F.K H a xs, YAt xs, by rw [← r.length]; exact walk_tup, fun M2 H2 _ e => k H2 e, fun M2 H2 i x H3 al e y => ?_⟩
  obtain ⟨rfl, y⟩ := y
  obtain ⟨d, h1, h2⟩ := r.getV y
  exact ⟨Same.refl _, d, h1, h2.mono e⟩
theorem walkD_enL {a : Addr} {vs : List V} {xs : List D} (k : ∀ H', StepB F.mv F.H0 H' → SqL F.K H' a vs) (h2 : RepL F.K (hd M H) vs xs) : WalkD F (Ite F.K a) M H (numbered xs) := by
  refine ⟨fun H => SqL F.K H a vs, YPair (fun i => some (.int (i : Nat))) (fun i => vs[i]?), ?_, fun M2 H2 _ e => k H2 e, fun M2 H2 i x H3 al e y => ?_⟩
  · have := walk_enum (K := F.K) (a := a) (xs := vs)
    rw [numbered_len, ← h2.length]
    exact this
  · obtain ⟨T, v, w, rfl, hT, rfl, e1, e2⟩ := y
    cases e1
    obtain ⟨f, e3, r2⟩ := h2.getV e2
    exact ⟨same_new hT, .tup [.int (i : Nat), f], numbered_get e3, pair_ok al hT (.int _) (r2.mono e)⟩
theorem walkD_enT {a : Addr} {vs : List V} {xs : List D} (k : ∀ H', StepB F.mv F.H0 H' → SqT F.K H' a vs) (h2 : RepL F.K (hd M H) vs xs) : WalkD F (IteT F.K a) M H (numbered xs) := by
  refine ⟨fun H => SqT F.K H a vs, YPair (fun i => some (.int (i : Nat))) (fun i => vs[i]?), ?_, fun M2 H2 _ e => k H2 e, fun M2 H2 i x H3 al e y => ?_⟩
  · have := walk_enumT (K := F.K) (a := a) (xs := vs)
    rw [numbered_len, ← h2.length]
    exact this
  · obtain ⟨T, v, w, rfl, hT, rfl, e1, e2⟩ := y
    cases e1
    obtain ⟨f, e3, r2⟩ := h2.getV e2
    exact ⟨same_new hT, .tup [.int (i : Nat), f], numbered_get e3, pair_ok al hT (.int _) (r2.mono e)⟩
theorem seq_keepL {K : PySem.W.Frag} {H H' : Hp} {p : Addr} {vs : List V} {B : Addr → Prop} (e : StepB B H H') (hb : ¬ B p) (h : SqL K H p vs) : SqL K H' p vs := by
  rcases h with (h | ⟨o, h⟩) | h
  · exact .inl (.inl (e _ _ hb h))
  · exact .inl (.inr ⟨o, e _ _ hb h⟩)
  · exact .inr h
theorem seq_keepT {K : PySem.W.Frag} {H H' : Hp} {p : Addr} {vs : List V} {B : Addr → Prop} (e : StepB B H H') (hb : ¬ B p) (h : SqT K H p vs) : SqT K H' p vs := by
  rcases h with (h | ⟨o, h⟩) | h
  · exact .inl (.inl (e _ _ hb h))
  · exact .inl (.inr ⟨o, e _ _ hb h⟩)
  · exact .inr h
theorem Ctx.sqAt (c : Ctx F M σ H δ) {i : Nat} {ds : List D} (h : δ[i]? = some (.sq ds)) : ∃ p vs, σ[i]? = some (some (.ref p)) ∧ ((∀ H', StepB F.mv F.H0 H' → SqL F.K H' p vs) ∨ (∀ H', StepB F.mv F.H0 H' → SqT F.K H' p vs)) ∧ RepL F.K (hd M H) vs ds := by
  obtain ⟨s, h1, p, vs, h2, h3, h4, h5⟩ := c.sl i _ h
  subst h2
  refine ⟨p, vs, h1, ?_, h5⟩
  rcases h4 with h4 | h4
  · exact .inl fun H' e => seq_keepL e h3 h4
  · exact .inr fun H' e => seq_keepT e h3 h4
theorem it_sq {i : Nat} {ds : List D} (hi : δ[i]? = some (.sq ds)) (p : PX ds) : ItD F (iSeq F.K (tVar i)) δ PX := fun M σ H R c q => by
  obtain ⟨a, vs, h1, h2, r⟩ := c.sqAt hi
  rcases h2 with h2 | h2
  · exact ⟨_, h1, a, vs, rfl, .inl ⟨h2 H c.fr, q _ ds H p c (StepB.refl _ _) (walkD_sqL h2 r)⟩⟩
  · exact ⟨_, h1, a, vs, rfl, .inr ⟨h2 H c.fr, q _ ds H p c (StepB.refl _ _) (walkD_sqT h2 r)⟩⟩
theorem it_enumSq {i : Nat} {ds : List D} (hi : δ[i]? = some (.sq ds)) (p : PX (numbered ds)) : ItD F (iEnumA F.K (tCons (tVar i) tNil)) δ PX := fun M σ H R c q => by
  obtain ⟨a, vs, h1, h2, r⟩ := c.sqAt hi
  rcases h2 with h2 | h2
  · exact ⟨_, h1, a, vs, rfl, .inl ⟨h2 H c.fr, q _ _ H p c (StepB.refl _ _) (walkD_enL h2 r)⟩⟩
  · exact ⟨_, h1, a, vs, rfl, .inr ⟨h2 H c.fr, q _ _ H p c (StepB.refl _ _) (walkD_enT h2 r)⟩⟩
theorem ev_lenSq {i : Nat} {ds : List D} (hi : δ[i]? = some (.sq ds)) (p : P (.int (ds.length : Int))) : Ev F (tCB (rLenK F.K) (tCons (tVar i) tNil)) δ P := fun M σ H Q c q => by
  obtain ⟨a, vs, h1, h2, r⟩ := c.sqAt hi
  refine ⟨_, h1, _, ds.length, rfl, ?_, q _ _ H p c (StepB.refl _ _) (.int _)⟩
  rcases h2 with h2 | h2
  · exact .inl ⟨_, h2 H c.fr, r.length.symm⟩
  · exact .inr ⟨_, h2 H c.fr, r.length.symm⟩
/-- the same of data that is a list -/
theorem it_seqL (h : Ev F te δ fun d => ∃ ds, d = .lst ds ∧ PX ds) : ItD F (iSeq F.K te) δ PX := fun M σ H R c q =>
  h M σ H _ c fun v d H1 p c1 e r => by
    obtain ⟨ds, rfl, p⟩ := p
    cases r with
    | lst h1 h2 => exact ⟨_, _, rfl, .inl ⟨SqL.of (hd_of h1).2, q _ ds H1 p c1 e (walkD_list h1 h2)⟩⟩
theorem it_enumL (h : Ev F te δ fun d => ∃ ds, d = .lst ds ∧ PX (numbered ds)) : ItD F (iEnumA F.K (tCons te tNil)) δ PX := fun M σ H R c q =>
  h M σ H _ c fun v d H1 p c1 e r => by
    obtain ⟨ds, rfl, p⟩ := p
    cases r with
    | @lst a vs _ h1 h2 =>
      refine ⟨_, _, rfl, .inl ⟨SqL.of (hd_of h1).2, q _ _ H1 p c1 e ⟨fun H => SqL F.K H a vs, YPair (fun i => some (.int (i : Nat))) (fun i => vs[i]?), ?_, fun M2 H2 e _ => (SqL.of (hd_of (e _ _ h1)).2 : SqL F.K H2 a vs), fun M2 H2 i x H3 al e y => ?_⟩⟩⟩
      · have := walk_enum (K := F.K) (a := a) (xs := vs)
        rw [numbered_len, ← h2.length]
        exact this
      · obtain ⟨T, v, w, rfl, hT, rfl, e1, e2⟩ := y
        cases e1
        obtain ⟨f, e3, r2⟩ := h2.getV e2
        exact ⟨same_new hT, .tup [.int (i : Nat), f], numbered_get e3, pair_ok al hT (.int _) (r2.mono e)⟩
end
/-! ### more operations -/
def rIns : V → List V → Hp → VK → Prop := fun x vs H Q => ∃ (l : Addr) (xs : List V) (i : Int) (y : V), x = .ref l ∧ vs = [.int i, y] ∧ H l = some (.lst xs) ∧ xs.length < sizeLine ∧ 0 ≤ i ∧ i < 2 ^ 63 ∧
    Q .non (upd H l (.lst (xs.take i.toNat ++ [y] ++ xs.drop i.toNat)))
section
variable {F : Fm} {δ : List SD} {te tv : TE} {R : PD} {P : D → Prop}
theorem do_insert {i : Nat} {p : Addr} {ds : List D} (hi : δ[i]? = some (.own p (.lst ds))) (hl : ds.length < 100000) (h : Ev F te δ fun x => ∃ n : Int, x = .int n ∧ 0 ≤ n ∧ n < 2 ^ 63 ∧ Ev F tv δ fun y => R.nx (δ.set i (.own p (.lst (ds.take n.toNat ++ [y] ++ ds.drop n.toNat))))) :
    Do F (tDrop (tBM F.K "list" rIns (tVar i) (tCons te (tCons tv tNil)))) δ R := fun M σ H E c a b k d => by
  obtain ⟨y, h1, hy, m, ho, h3, r0⟩ := c.sl i _ hi
  subst hy
  cases r0 with
  | @lst ws _ r0 =>
  refine ⟨_, h1, .inl ⟨rfl, ws, SqL.of h3⟩, ?_⟩
  refine h M σ H _ c fun v x H1 p1 c1 e1 r1 => ?_
  obtain ⟨n, rfl, n0, n1, p1⟩ := p1
  cases r1
  refine p1 M σ H1 _ c1 fun w z H2 p2 c2 e2 r2 => ?_
  have h4 := (e1.trans e2) p _ (c.oh i p _ hi).2 h3
  have s := (hd_step c e1).trans (hd_step c1 e2)
  refine ⟨p, ws, n, w, rfl, rfl, h4, by rw [r0.length]; exact sz_lt hl, n0, n1, ?_⟩
  have r3 := r0.mono s
  refine a M σ _ _ p2 (c2.put hi (.lst (((r3.take n.toNat).append (RepL.one r2)).append (r3.drop n.toNat)))) ?_
  rw [hd_upd m]
  exact s
/-- a constant of a class -/
theorem ev_cval {C : Addr} {mc : Value} {f : Str} {n : Int} {u : Value} (cr : ClX.CRead F.K C mc) (cv : ClX.CVal F.K C mc f (.int n) u) (p : P (.int n)) (h : Ev F te δ fun d => d = .adr C) : Ev F (ClX.tCVal F.K te f) δ P := fun M σ H Q c q =>
  h M σ H _ c fun v x H1 p1 c1 e1 r1 => by
    subst p1
    cases r1
    exact ⟨C, mc, .int n, u, rfl, cr, cv, q _ _ H1 p c1 e1 (.int n)⟩
end
section
variable {K : PySem.W.Frag} {P : D → Prop}
/-- an int among ints -/
theorem od_inInts {i : Int} {ns : List Int} {t : Bool} (p : P (.bl (decide (i ∈ ns)))) : OpD K (rIn K false) (.int i) (if t then .tup (ns.map .int) else .lst (ns.map .int)) P := fun M H v w Q al r1 r2 q => by
  cases r1
  have key : ∀ {vs : List V} {ns : List Int}, RepL K (hd M H) vs (ns.map .int) → vs = ns.map V.int := by
    intro vs ns
    induction ns generalizing vs with
    | nil =>
      intro r
      cases r
      rfl
    | cons n ns ih =>
      intro r
      cases r with
      | cons r rs =>
        cases r
        rw [List.map_cons, ← ih rs]
  have fl : ∀ ns : List Int, ((ns.map V.int).all flatV) = true := fun ns => by
    rw [List.all_eq_true]
    intro x hx
    obtain ⟨n, _, rfl⟩ := List.mem_map.mp hx
    rfl
  have iv : ∀ ns : List Int, inV (.int i) (ns.map V.int) = decide (i ∈ ns) := fun ns => by
    induction ns with
    | nil => rfl
    | cons n ns ih =>
      have e : eqV (.int n) (.int i) = decide (i = n) := by
        show (n == i) = _
        rw [Bool.beq_eq_decide_eq]
        simp [eq_comm]
      show (eqV (.int n) (.int i) || inV (.int i) (ns.map V.int)) = _
      rw [e, ih]
      simp [List.mem_cons]
  cases t with
  | true =>
    simp only [if_true] at r2
    cases r2 with
    | tup h1 h2 =>
      have e := key h2
      subst e
      exact ⟨_, _, rfl, .inr (same_tup (same_hd M H) h1), rfl, fl ns, by rw [iv]; exact q _ _ H p (Same.refl H) (.bl _)⟩
  | false =>
    simp only [Bool.false_eq_true, if_false] at r2
    cases r2 with
    | lst h1 h2 =>
      have e := key h2
      subst e
      exact ⟨_, _, rfl, .inl (SqL.of (hd_of h1).2), rfl, fl ns, by rw [iv]; exact q _ _ H p (Same.refl H) (.bl _)⟩
theorem cd_max2 {i j : Int} {r : List V → Hp → VK → Prop} (hr : ∀ xs H Q, (∃ i j, xs = [V.int i, .int j] ∧ Q (.int (if j > i then j else i)) H) → r xs H Q) (p : P (.int (if j > i then j else i))) : CallD K r [.int i, .int j] P := fun M H vs Q al r1 q => by
  cases r1 with
  | cons r1 r2 =>
    cases r2 with
    | cons r2 r3 =>
      cases r3
      cases r1
      cases r2
      exact hr _ _ _ ⟨i, j, rfl, q _ _ H p (Same.refl H) (.int _)⟩
theorem cd_strI {i : Int} {r : List V → Hp → VK → Prop} (hr : ∀ xs H Q, (∃ i, xs = [V.int i] ∧ i.natAbs.log2 < 1920 ∧ Q (.str (toString i)) H) → r xs H Q) (hz : i.natAbs.log2 < 1920) (p : P (.str (toString i))) : CallD K r [.int i] P := fun M H vs Q al r1 q => by
  cases r1 with
  | cons r1 r2 =>
    cases r2
    cases r1
    exact hr _ _ _ ⟨i, rfl, hz, q _ _ H p (Same.refl H) (.str _)⟩
/-- == and != of data at any depth -/
theorem od_eqD {x y : D} (px : plainD x = true) (py : plainD y = true) (sx : SeqAt.shaped (pyd x) = true) (sy : SeqAt.shaped (pyd y) = true) (p : P (.bl (PyData.eqv (pyd x) (pyd y)))) : OpD K (rEqD K) x y P := fun M H v w Q al r1 r2 q =>
  ⟨_, _, rep_dp (r1.mono (same_hd M H)) px, rep_dp (r2.mono (same_hd M H)) py, sx, sy, q _ _ H p (Same.refl H) (.bl _)⟩
theorem od_neD {x y : D} (px : plainD x = true) (py : plainD y = true) (sx : SeqAt.shaped (pyd x) = true) (sy : SeqAt.shaped (pyd y) = true) (p : P (.bl (!PyData.eqv (pyd x) (pyd y)))) : OpD K (rNeD K) x y P := fun M H v w Q al r1 r2 q =>
  ⟨_, _, rep_dp (r1.mono (same_hd M H)) px, rep_dp (r2.mono (same_hd M H)) py, sx, sy, q _ _ H p (Same.refl H) (.bl _)⟩
end
/-! f-strings -/
section
variable {F : Fm} {δ : List SD} {te : TE} {P : D → Prop} {PS : Str → Prop}
theorem ev_fmtI (h : Ev F te δ fun d => ∃ i : Int, d = .int i ∧ i.natAbs.log2 < 1920 ∧ P (.str (toString i))) : Ev F (tFmt te) δ P := fun M σ H Q c q =>
  h M σ H _ c fun v x H1 p1 c1 e1 r1 => by
    obtain ⟨i, rfl, hz, p⟩ := p1
    cases r1
    exact .inr ⟨i, rfl, hz, q _ _ H1 p c1 e1 (.str _)⟩
theorem ev_fmtS (h : Ev F te δ fun d => ∃ z : Str, d = .str z ∧ z.length ≤ 100000 ∧ P (.str z)) : Ev F (tFmt te) δ P := fun M σ H Q c q =>
  h M σ H _ c fun v x H1 p1 c1 e1 r1 => by
    obtain ⟨z, rfl, hz, p⟩ := p1
    cases r1
    exact .inl ⟨z, rfl, sz_of hz, q _ _ H1 p c1 e1 (.str _)⟩
def EvJ (F : Fm) (ts : List TE) (acc : Str) (δ : List SD) (P : Str → Prop) : Prop := ∀ M σ H (Q : Str → Hp → Prop), Ctx F M σ H δ → (∀ z H', P z → Ctx F M σ H' δ → StepB F.mv H H' → Q z H') → tJs ts acc σ H Q
theorem ej_nil {acc : Str} (p : PS acc) : EvJ F [] acc δ PS := fun M σ H Q c q => q acc H p c (StepB.refl _ _)
theorem ej_cons {ts : List TE} {acc : Str} (h : Ev F te δ fun d => ∃ z : Str, d = .str z ∧ (acc ++ z).length ≤ 100000 ∧ EvJ F ts (acc ++ z) δ PS) : EvJ F (te :: ts) acc δ PS := fun M σ H Q c q =>
  h M σ H _ c fun v x H1 p1 c1 e1 r1 => by
    obtain ⟨z, rfl, hz, p⟩ := p1
    cases r1
    exact ⟨z, rfl, sz_of hz, p M σ H1 Q c1 fun y H2 py c2 e2 => q y H2 py c2 (e1.trans e2)⟩
theorem ev_joined {ts : List TE} (h : EvJ F ts Str.empty δ fun z => P (.str z)) : Ev F (fun σ H Q => tJs ts Str.empty σ H fun out H1 => Q (.str out) H1) δ P := fun M σ H Q c q =>
  h M σ H _ c fun z H1 p c1 e => q _ _ H1 p c1 e (.str _)
end
end Pf
namespace Pf
open PySem L2 RZ PySem.Spec PyProof.Rows
theorem peCval {X : Cx} {e : Expr} {f : Str} {pos : Pos} {ta : TE} (K : PySem.W.Frag) (he : PE X e ta) (hb : attributeBase e f X.env (eval e X.env) = eval e X.env := by rfl) (hK : X.K = K := by rfl) : PE X (.Attribute e f pos) (ClX.tCVal K ta f) := by
  subst hK; exact ClX.pe_cval he hb
end Pf

namespace Pf
open PySem L2 RZ PySem.Spec PyProof.Rows
/-! a def of one sequence that is only read -/
def spS (K : PySem.W.Frag) (Pre : List D → Prop) (Post : List D → D → Prop) : Sp := fun vs H Q _ => ∃ (M : Addr → Bool) (p : Addr) (us : List V) (es : List D), vs = [.ref p] ∧ Al M H ∧ (SqL K H p us ∨ SqT K H p us) ∧ RepL K (hd M H) us es ∧ Pre es ∧
  ∀ v d H', Post es d → Same H H' → Rep K (hd M H') v d → Q v H'
section
variable {K : PySem.W.Frag} {N : List Str} {vs : List V} {H : Hp} {Q : VK} {E : XK} {t : TS} {Pre : List D → Prop} {Post : List D → D → Prop}
theorem enterS (hs : spS K Pre Post vs H Q E) (hb : ∀ (M : Addr → Bool) (es : List D), Pre es → Do ⟨K, none, M, H, E, 0, []⟩ t (.sq es :: List.replicate (N.length - 1) .un) { nx := fun _ => Post es .non, rt := Post es }) :
    t { nx := fun _ H' => Q .non H', rt := Q } (L2.start N vs) H := by
  obtain ⟨M, p, us, es, rfl, al, hq, r, pre, q⟩ := hs
  have nown : ∀ {i : Nat} {p : Addr} {o : OD}, (SD.sq es :: List.replicate (N.length - 1) .un)[i]? ≠ some (.own p o) := fun h => by
    have := List.mem_of_getElem? h
    rcases List.mem_cons.mp this with h | h
    · cases h
    · cases List.eq_of_mem_replicate h
  have c : Ctx ⟨K, none, M, H, E, 0, []⟩ M (L2.start N [.ref p]) H (.sq es :: List.replicate (N.length - 1) .un) := by
    refine ⟨al, al, fun _ h => h, StepB.refl _ _, ⟨fun b z => (nomatch z), fun a h => (nomatch h)⟩, ?_, fun i x h => ?_, fun i j p es fs h1 h2 => absurd h1 nown, fun i p es h => absurd h nown⟩
    · unfold L2.start
      simp
    · unfold L2.start
      cases i with
      | zero =>
        have e : SD.sq es = x := by simpa using h
        subst e
        exact ⟨_, rfl, p, us, rfl, mv_none rfl rfl _, hq, r⟩
      | succ i =>
        have h' : (List.replicate (N.length - 1) SD.un)[i]? = some x := by simpa using h
        have hx : x = .un := List.eq_of_mem_replicate (List.mem_of_getElem? h')
        have hlt := (List.getElem?_eq_some_iff.mp h').1
        rw [List.length_replicate] at hlt
        subst hx
        refine ⟨none, ?_, trivial⟩
        show (List.replicate (N.length - 1) none)[i]? = some none
        rw [List.getElem?_replicate, if_pos hlt]
  refine hb M es pre M _ H _ c (fun M' σ' H' δ' p c' s => ?_) (fun v d M' σ' H' δ' p c' s r' => ?_) (fun _ _ _ _ p => p.elim) (fun _ _ _ _ p => p.elim)
  · exact q _ _ H' p (fun a o h => c'.fr a o (mv_none rfl rfl a) h) .non
  · exact q v d H' p (fun a o h => c'.fr a o (mv_none rfl rfl a) h) (r'.mono (same_hd_le fun a h => c'.m0 a h))
end
section
variable {F : Fm} {δ : List SD} {P : D → Prop} {Pre : List D → Prop} {Post : List D → D → Prop} {E : XK}
theorem ev_callS {i : Nat} {es : List D} (hi : δ[i]? = some (.sq es)) (pre : Pre es) (po : ∀ d, Post es d → P d) : Ev F (tCall (spS F.K Pre Post) [] E (tCons (tVar i) tNil)) δ P := fun M σ H Q c q => by
  obtain ⟨a, vs, h1, hs, hr, _⟩ := c.getSq hi
  refine ⟨_, h1, ?_⟩
  show spS F.K Pre Post ([V.ref a] ++ []) H Q E
  rw [List.append_nil]
  exact ⟨M, a, vs, es, rfl, c.al, hs, hr, pre, fun v d H' pd s r => q v d H' (po d pd) (c.same s) (StepB.of s) r⟩
end
theorem spS_len {K : PySem.W.Frag} {Pre : List D → Prop} {Post : List D → D → Prop} : ∀ vs H Q E, spS K Pre Post vs H Q E → vs.length = 1 := fun vs H Q E ⟨M, p, us, es, e, _⟩ => by rw [e]; rfl
theorem spIS_len {K : PySem.W.Frag} {C : Addr} {Pre : List D → List D → Prop} {Post : List D → List D → List (Str × D) → Prop} {n : Nat} (h : ∀ ds es, Pre ds es → ds.length + 2 = n) : ∀ vs H Q E, spIS K C Pre Post vs H Q E → vs.length = n := fun vs H Q E ⟨M, H1, x, dx, ws, ds, p, us, es, e, _, _, _, _, _, r, _, _, pre, _⟩ => by
  rw [e]
  simp only [List.length_cons, List.length_append, List.length_nil, r.length]
  exact h ds es pre
theorem spN_len {K : PySem.W.Frag} {Pre : List D → Prop} {Post : List D → List D → Prop} {n : Nat} (h : ∀ ds, Pre ds → ds.length = n) : ∀ vs H Q E, spN K Pre Post vs H Q E → vs.length = n := fun vs H Q E ⟨M, ds, _, r, p, _⟩ => by rw [r.length, h ds p]
end Pf

namespace Pf
open PySem L2 RZ PySem.Spec PyProof.Rows
/-- texts -/
def txsD (zs : List Str) : List D := zs.map .str
theorem repL_strs {K : PySem.W.Frag} {H : Hp} : ∀ {vs : List V} {zs : List Str}, RepL K H vs (txsD zs) → vs = zs.map V.str
  | _, [], .nil => rfl
  | _, b :: bs, .cons (.str _) r => by rw [List.map_cons, repL_strs (zs := bs) r]
/-! ### an __init__ with a sequence in the middle, keyword-only parameters behind -/
def spIM (K : PySem.W.Frag) (C : Addr) (Pre : List D → List D → List D → Prop) (Post : List D → List D → List D → List (Str × D) → Prop) : Sp := fun vs H Q _ => ∃ (M : Addr → Bool) (H1 : Hp) (x dx : Addr) (ws : List V) (ds : List D) (p : Addr) (us : List V) (es : List D) (zs : List V) (gs : List D), vs = .ref x :: (ws ++ .ref p :: zs) ∧ H1 x = none ∧ H1 dx = none ∧ dx ≠ x ∧
  H = upd (upd H1 dx (.own x)) x (.ins C dx []) ∧ Al M H1 ∧ RepL K (hd M H1) ws ds ∧ (SqL K H1 p us ∨ SqT K (hd M H1) p us) ∧ RepL K (hd M H1) us es ∧ RepL K (hd M H1) zs gs ∧ Pre ds es gs ∧ ∀ H2 fs, Post ds es gs fs → Same H1 H2 → Rep K (hd M H2) (.ref x) (.ins C fs) → Q .non H2
theorem spIM_len {K : PySem.W.Frag} {C : Addr} {Pre : List D → List D → List D → Prop} {Post : List D → List D → List D → List (Str × D) → Prop} {n : Nat} (h : ∀ ds es gs, Pre ds es gs → ds.length + gs.length + 2 = n) : ∀ vs H Q E, spIM K C Pre Post vs H Q E → vs.length = n := fun vs H Q E ⟨M, H1, x, dx, ws, ds, p, us, es, zs, gs, e, _, _, _, _, _, r, _, _, rz, pre, _⟩ => by
  rw [e]
  simp only [List.length_cons, List.length_append, r.length, rz.length]
  have := h ds es gs pre
  omega
section
variable {K : PySem.W.Frag} {N : List Str} {vs : List V} {H : Hp} {Q : VK} {E : XK} {t : TS} {C : Addr}
theorem enterIM {Pre : List D → List D → List D → Prop} {Post : List D → List D → List D → List (Str × D) → Prop} (hs : spIM K C Pre Post vs H Q E)
    (hb : ∀ (M : Addr → Bool) (H1 : Hp) (x : Addr) (ds es gs : List D) (X : SD), Pre ds es gs → ds.length + gs.length + 2 = vs.length → (X = .sl es ∨ X = .dat (.tup es)) → Do ⟨K, none, M, H1, E, 0, []⟩ t (slotsI N x C (ds.map .dat ++ X :: gs.map .dat)) { nx := fun δ' => ∃ fs, δ'[0]? = some (.own x (.ins C fs)) ∧ Post ds es gs fs }) :
    t { nx := fun _ H' => Q .non H', rt := Q } (L2.start N vs) H := by
  obtain ⟨M, H1, x, dx, ws, ds, p, us, es, zs, gs, rfl, hx, hdx, ne, rfl, al, r, hq, rq, rz, pre, q⟩ := hs
  have hl := r.length
  have hlz := rz.length
  have s1 := same_made (C := C) hx hdx
  obtain ⟨X, hX, hXs, hXn⟩ : ∃ X : SD, (X = .sl es ∨ X = .dat (.tup es)) ∧ SlotOk ⟨K, none, M, H1, E, 0, []⟩ (hid M x) (upd (upd H1 dx (.own x)) x (.ins C dx [])) (some (.ref p)) X ∧ ∀ p o, X ≠ .own p o := by
    rcases hq with hq | hq
    · exact ⟨.sl es, .inl rfl, ⟨p, us, rfl, mv_none rfl rfl _, hq, rq.mono (hid_mono hx s1)⟩, fun p o e => by cases e⟩
    · exact ⟨.dat (.tup es), .inr rfl, ⟨_, rfl, .tup (same_tup (hid_mono hx s1) hq) (rq.mono (hid_mono hx s1))⟩, fun p o e => by cases e⟩
  have split : ∀ (i : Nat) (y : SD), (ds.map SD.dat ++ X :: gs.map SD.dat)[i]? = some y → (∃ v, (ws ++ .ref p :: zs)[i]? = some v ∧ SlotOk ⟨K, none, M, H1, E, 0, []⟩ (hid M x) (upd (upd H1 dx (.own x)) x (.ins C dx [])) (some v) y) ∧ ∀ p o, y ≠ .own p o := fun i y h => by
    by_cases hi : i < ds.length
    · rw [List.getElem?_append_left (by simpa using hi), List.getElem?_map] at h
      cases z : ds[i]? with
      | none => rw [z] at h; cases h
      | some d =>
        rw [z] at h
        cases h
        obtain ⟨v, g1, g2⟩ := r.get z
        exact ⟨⟨v, by rw [List.getElem?_append_left (by rw [hl]; exact hi)]; exact g1, v, rfl, g2.mono (hid_mono hx s1)⟩, fun p o e => by cases e⟩
    · have hi := Nat.le_of_not_lt hi
      rw [List.getElem?_append_right (by simpa using hi)] at h
      simp only [List.length_map] at h
      rw [List.getElem?_append_right (by rw [hl]; exact hi), hl]
      generalize i - ds.length = j at h
      cases j with
      | zero =>
        obtain rfl : X = y := by simpa using h
        exact ⟨⟨_, rfl, hXs⟩, hXn⟩
      | succ j =>
        have h' : (gs.map SD.dat)[j]? = some y := by simpa using h
        rw [List.getElem?_map] at h'
        cases z : gs[j]? with
        | none => rw [z] at h'; cases h'
        | some d =>
          rw [z] at h'
          cases h'
          obtain ⟨v, g1, g2⟩ := rz.get z
          exact ⟨⟨v, by simpa using g1, v, rfl, g2.mono (hid_mono hx s1)⟩, fun p o e => by cases e⟩
  have c := ctxI (K := K) (E := E) (C := C) (N := N) (ws := ws ++ .ref p :: zs) (sds := ds.map .dat ++ X :: gs.map .dat) hx hdx ne al (by simp [hl, hlz]) (fun i y h => (split i y h).1) (fun i p o h => (split i _ h).2 p o rfl)
  refine hb M H1 x ds es gs X pre (by simp [hl, hlz]; omega) hX _ _ _ _ c (fun M' σ' H' δ' pp c' s => ?_) (fun v d M' σ' H' δ' pp => pp.elim) (fun _ _ _ _ p => p.elim) (fun _ _ _ _ p => p.elim)
  obtain ⟨fs, h0, po⟩ := pp
  obtain ⟨g1, g2⟩ := leaveI hx al c' h0
  exact q H' fs po g1 g2
end
/-- a list as it was split in data -/
theorem repL_split {K : PySem.W.Frag} {H : Hp} : ∀ {ds : List D} {l : D} {gs : List D} {vs : List V}, RepL K H vs (ds ++ l :: gs) → ∃ ws u zs, vs = ws ++ u :: zs ∧ RepL K H ws ds ∧ Rep K H u l ∧ RepL K H zs gs
  | [], l, gs, _, .cons r1 r2 => ⟨[], _, _, rfl, .nil, r1, r2⟩
  | d :: ds, l, gs, _, .cons r1 r2 => by
    obtain ⟨ws, u, zs, rfl, g1, g2, g3⟩ := repL_split (ds := ds) r2
    exact ⟨_ :: ws, u, zs, rfl, .cons r1 g1, g2, g3⟩
section
variable {F : Fm} {δ : List SD} {ta tk : TA} {te : TE} {P : D → Prop} {C : Addr} {E : XK} {Pre : List D → List D → List D → Prop} {Post : List D → List D → List D → List (Str × D) → Prop}
/-- the sequence that is handed over: data, or a list of one's own -/
def SeqArg (δ : List SD) (l : D) (es : List D) : Prop := l = .lst es ∨ l = .tup es ∨ ∃ (i : Nat) (p : Addr), l = .adr p ∧ δ[i]? = some (SD.own p (.lst es))
theorem seqArg_at {M : Addr → Bool} {σ : L2.St} {H : Hp} {u : V} {l : D} {es : List D} (c : Ctx F M σ H δ) (h : SeqArg δ l es) (r : Rep F.K (hd M H) u l) : ∃ p us, u = .ref p ∧ (SqL F.K H p us ∨ SqT F.K (hd M H) p us) ∧ RepL F.K (hd M H) us es := by
  rcases h with rfl | rfl | ⟨i, p, rfl, hi⟩
  · cases r with
    | lst h1 h2 => exact ⟨_, _, rfl, .inl (SqL.of (hd_of h1).2), h2⟩
  · cases r with
    | tup h1 h2 => exact ⟨_, _, rfl, .inr h1, h2⟩
  · cases r
    obtain ⟨s, hs, e, m, ho, hp, rr⟩ := c.sl i _ hi
    cases rr with
    | @lst us _ rr => exact ⟨p, us, rfl, .inl (SqL.of hp), rr⟩
theorem ev_ownAdr {i : Nat} {p : Addr} {o : OD} (hi : δ[i]? = some (.own p o)) (h : P (.adr p)) : Ev F (tVar i) δ P := fun M σ H Q c q => by
  obtain ⟨s, hs, e, _⟩ := c.sl i _ hi
  subst e
  exact ⟨_, hs, q _ _ H h c (StepB.refl _ _) (.adr p)⟩
/-- C(e, .., k = v, ..) -/
theorem ev_makeMK {n m : Nat} {gV : List V → List V → List V} {gD : List D → List D → List D} (hg : ∀ (H : Hp) (vs zs : List V) (ds es : List D), RepL F.K H vs ds → RepL F.K H zs es → RepL F.K H (gV vs zs) (gD ds es))
    (h : EvA F ta δ fun ds => EvA F tk δ fun ks => ds.length = n ∧ ks.length = m ∧ ∃ ds0 l es gs, (∀ x, gD (.adr x :: ds) ks = .adr x :: (ds0 ++ l :: gs)) ∧ SeqArg δ l es ∧ Pre ds0 es gs ∧ ∀ fs, Post ds0 es gs fs → P (.ins C fs)) :
    Ev F (tMakeK C n m (spIM F.K C Pre Post) gV E ta tk) δ P := fun M σ H Q c q => by
  refine h M σ H _ c fun vs ds H1 p1 c1 e1 r1 => p1 M σ H1 _ c1 fun zs ks H2 p2 c2 e2 r2 => ?_
  obtain ⟨l1, l2, ds0, l, es, gs, hgd, hl, pre, po⟩ := p2
  refine ⟨by rw [r1.length, l1], by rw [r2.length, l2], fun x dx hx hdx ne => ?_⟩
  have r := hg _ (.ref x :: vs) zs (.adr x :: ds) ks (.cons (.adr x) (r1.mono (hd_step c1 e2))) r2
  rw [hgd x] at r
  generalize gV (.ref x :: vs) zs = ws at r
  cases r with
  | cons ra rb =>
    cases ra
    obtain ⟨w1, u, w2, rfl, g1, g2, g3⟩ := repL_split rb
    obtain ⟨p, us, rfl, hq, rq⟩ := seqArg_at c2 hl g2
    exact ⟨M, H2, x, dx, w1, ds0, p, us, es, w2, gs, rfl, hx, hdx, ne, rfl, c2.al, g1, hq, rq, g3, pre, fun H3 fs ps s rr => ⟨rfl, q _ _ H3 (po fs ps) (c2.same s) ((e1.trans e2).trans (StepB.of s)) rr⟩⟩
/-- C(e, ..), defaults behind -/
theorem ev_makeMD {dvs : List V} {dds : List D} (hd' : ∀ H, RepL F.K H dvs dds) (h : EvA F ta δ fun ds => ∃ ds0 l es gs, ds ++ dds = ds0 ++ l :: gs ∧ SeqArg δ l es ∧ Pre ds0 es gs ∧ ∀ fs, Post ds0 es gs fs → P (.ins C fs)) :
    Ev F (tMake C (spIM F.K C Pre Post) dvs E ta) δ P := fun M σ H Q c q =>
  h M σ H _ c fun vs ds H1 p1 c1 e1 r1 x dx hx hdx ne => by
    obtain ⟨ds0, l, es, gs, e, hl, pre, po⟩ := p1
    have r := r1.append (hd' (hd M H1))
    rw [e] at r
    obtain ⟨w1, u, w2, ew, g1, g2, g3⟩ := repL_split r
    obtain ⟨p, us, rfl, hq, rq⟩ := seqArg_at c1 hl g2
    rw [ew]
    exact ⟨M, H1, x, dx, w1, ds0, p, us, es, w2, gs, rfl, hx, hdx, ne, rfl, c1.al, g1, hq, rq, g3, pre, fun H3 fs ps s rr => ⟨rfl, q _ _ H3 (po fs ps) (c1.same s) (e1.trans (StepB.of s)) rr⟩⟩
/-! a sequence in a slot that is a borrowed list or a tuple of data -/
def SeqSlot (δ : List SD) (i : Nat) (es : List D) : Prop := δ[i]? = some (.sl es) ∨ δ[i]? = some (.dat (.tup es))
theorem Ctx.getSl {M : Addr → Bool} {σ : L2.St} {H : Hp} (c : Ctx F M σ H δ) {i : Nat} {ds : List D} (h : δ[i]? = some (.sl ds)) : ∃ p vs, σ[i]? = some (some (.ref p)) ∧ SqL F.K H p vs ∧ RepL F.K (hd M H) vs ds := by
  obtain ⟨s, h1, p, vs, h2, h3, h4, h5⟩ := c.sl i _ h
  subst h2
  exact ⟨p, vs, h1, seq_keepL c.fr h3 h4, h5⟩
theorem ev_tupSeq {i : Nat} {es : List D} (hi : SeqSlot δ i es) (p : P (.tup es)) : Ev F (tCB (rTupleK F.K) (tCons (tVar i) tNil)) δ P := fun M σ H Q c q => by
  rcases hi with hi | hi
  · obtain ⟨a, vs, h1, h2, r⟩ := c.getSl hi
    exact ⟨_, h1, a, vs, rfl, .inl ⟨h2, fun l hl => q _ _ _ p (c.same (same_new hl)) (StepB.of (same_new hl)) (.tup (SqT.of (hd_new c.al hl)) (r.mono (same_hdM (same_new hl))))⟩⟩
  · obtain ⟨v, h1, r⟩ := c.get hi
    cases r with
    | tup h2 h3 => exact ⟨_, h1, _, _, rfl, .inr ⟨same_tup (same_hd M H) h2, q _ _ H p c (StepB.refl _ _) (.tup h2 h3)⟩⟩
theorem ev_callSeq {Pre : List D → Prop} {Post : List D → D → Prop} {i : Nat} {es : List D} (hi : SeqSlot δ i es) (pre : Pre es) (po : ∀ d, Post es d → P d) : Ev F (tCall (spS F.K Pre Post) [] E (tCons (tVar i) tNil)) δ P := fun M σ H Q c q => by
  rcases hi with hi | hi
  · obtain ⟨a, vs, h1, h2, r⟩ := c.getSl hi
    refine ⟨_, h1, ?_⟩
    show spS F.K Pre Post ([V.ref a] ++ []) H Q E
    rw [List.append_nil]
    exact ⟨M, a, vs, es, rfl, c.al, .inl h2, r, pre, fun v d H' pd s r => q v d H' (po d pd) (c.same s) (StepB.of s) r⟩
  · obtain ⟨v, h1, r⟩ := c.get hi
    cases r with
    | @tup a vs _ h2 h3 =>
      refine ⟨_, h1, ?_⟩
      show spS F.K Pre Post ([V.ref a] ++ []) H Q E
      rw [List.append_nil]
      exact ⟨M, a, vs, es, rfl, c.al, .inr (same_tup (same_hd M H) h2), h3, pre, fun v d H' pd s r => q v d H' (po d pd) (c.same s) (StepB.of s) r⟩
/-- an item of a borrowed sequence -/
theorem ev_ixSq {i : Nat} {es : List D} {k : Int} {d : D} (hi : δ[i]? = some (.sq es)) (hk : atI es k = some d) (p : P d) : Ev F (tOp (rIx F.K) (tVar i) (tC (.int k))) δ P := fun M σ H Q c q => by
  obtain ⟨a, vs, h1, h2, r⟩ := c.sqAt hi
  obtain ⟨v, e, rv⟩ := repL_at r hk
  refine ⟨_, h1, ?_⟩
  rcases h2 with h2 | h2
  · exact .inl ⟨a, vs, k, v, rfl, rfl, h2 H c.fr, e, q v d H p c (StepB.refl _ _) rv⟩
  · exact .inr (.inl ⟨a, vs, k, v, rfl, rfl, h2 H c.fr, e, q v d H p c (StepB.refl _ _) rv⟩)
/-- a class constant that is a tuple of texts -/
theorem ev_ctup {mc : Value} {f : Str} {a : Addr} {u : Value} {zs : List Str} (cr : ClX.CRead F.K C mc) (cv : ClX.CVal F.K C mc f (.ref a) u) (sq : ∀ H, SqT F.K H a (zs.map V.str)) (p : P (.tup (txsD zs))) (h : Ev F te δ fun d => d = .adr C) : Ev F (ClX.tCVal F.K te f) δ P := fun M σ H Q c q =>
  h M σ H _ c fun v x H1 p1 c1 e1 r1 => by
    subst p1
    cases r1
    refine ⟨C, mc, .ref a, u, rfl, cr, cv, q _ _ H1 p c1 e1 (.tup (sq _) ?_)⟩
    have : ∀ zs : List Str, RepL F.K (hd M H1) (zs.map V.str) (txsD zs) := fun zs => by
      induction zs with
      | nil => exact .nil
      | cons z zs ih => exact .cons (.str z) ih
    exact this zs
/-- a, b = x, y -/
theorem do_par2 {tb : TE} {R : PD} {i j : Nat} (h : Ev F te δ fun x => Ev F tb δ fun y => R.nx ((δ.set i (.dat x)).set j (.dat y))) : Do F (tPar i j (tCons te (tCons tb tNil))) δ R := fun M σ H E c a b k d =>
  h M σ H _ c fun v x H1 p1 c1 e1 r1 => p1 M σ H1 _ c1 fun w y H2 p2 c2 e2 r2 =>
    ⟨v, w, rfl, a M _ H2 _ p2 ((c2.set i (r1.mono (hd_step c1 e2))).set j r2) ((hd_step c e1).trans (hd_step c1 e2))⟩
/-- list(range(n)) -/
theorem en_lstRg1 {PL : List D → Prop} (h : Ev F te δ fun d => ∃ n : Int, d = .int n ∧ 0 ≤ n ∧ n ≤ 1000 ∧ PL (upto 0 n.toNat)) : EvN F (tLstRg (tRg1 te)) δ PL := fun M σ H Q c q =>
  h M σ H _ c fun v d H1 p1 c1 e1 r1 => by
    obtain ⟨n, rfl, h0, h1, p⟩ := p1
    cases r1
    refine ⟨n, rfl, RgOk.of_le (by omega) (by omega) (by omega) (by omega), fun a ha => ?_⟩
    have ha0 : H a = none := by
      cases z : H a with
      | none => rfl
      | some o =>
        have := e1 a o (c1.nob ha) z
        rw [ha] at this
        cases this
    refine q a _ _ _ p (c1.hide ha) ha0 (c1.h0 ha) (c1.nob ha) (c1.nown ha) (e1.trans (StepB.of (same_new ha))) upd_same ?_
    have key : ∀ (H : Hp) (l : List Nat), RepL F.K H (l.map fun i => V.int (0 + (i : Nat))) (l.map fun i => D.int (0 + (i : Nat))) := fun H l => by
      induction l with
      | nil => exact .nil
      | cons x l ih => exact .cons (.int _) ih
    have e : (n - 0).toNat = n.toNat := by omega
    unfold rgV upto
    rw [e]
    exact key _ _
end
section
variable {K : PySem.W.Frag} {P : D → Prop}
/-- a text among texts -/
theorem od_inStrs {x : Str} {zs : List Str} {neg t : Bool} (p : P (.bl (if neg then !decide (x ∈ zs) else decide (x ∈ zs)))) : OpD K (rIn K neg) (.str x) (if t then .tup (txsD zs) else .lst (txsD zs)) P := fun M H v w Q al r1 r2 q => by
  cases r1
  have fl : ∀ ns : List Str, ((ns.map V.str).all flatV) = true := fun ns => by
    rw [List.all_eq_true]
    intro x hx
    obtain ⟨n, _, rfl⟩ := List.mem_map.mp hx
    rfl
  have iv : ∀ ns : List Str, inV (.str x) (ns.map V.str) = decide (x ∈ ns) := fun ns => by
    induction ns with
    | nil => rfl
    | cons n ns ih =>
      have e : eqV (.str n) (.str x) = decide (x = n) := by
        show (n == x) = _
        by_cases h : x = n
        · subst h
          simp
        · rw [decide_eq_false h]
          exact beq_eq_false_iff_ne.mpr fun e => h e.symm
      show (eqV (.str n) (.str x) || inV (.str x) (ns.map V.str)) = _
      rw [e, ih]
      simp [List.mem_cons]
  cases t with
  | true =>
    simp only [if_true] at r2
    cases r2 with
    | tup h1 h2 =>
      have e := repL_strs h2
      subst e
      exact ⟨_, _, rfl, .inr (same_tup (same_hd M H) h1), rfl, fl zs, by rw [iv]; exact q _ _ H p (Same.refl H) (.bl _)⟩
  | false =>
    simp only [Bool.false_eq_true, if_false] at r2
    cases r2 with
    | lst h1 h2 =>
      have e := repL_strs h2
      subst e
      exact ⟨_, _, rfl, .inl (SqL.of (hd_of h1).2), rfl, fl zs, by rw [iv]; exact q _ _ H p (Same.refl H) (.bl _)⟩
/-- tuple + tuple -/
theorem od_catT {xs ys : List D} (h : xs.length + ys.length ≤ 100000) (p : P (.tup (xs ++ ys))) : OpD K (rCatA K) (.tup xs) (.tup ys) P := fun M H v w Q al r1 r2 q => by
  cases r1 with
  | tup h1 h2 =>
    cases r2 with
    | tup h3 h4 =>
      refine ⟨_, _, _, _, rfl, rfl, same_tup (same_hd M H) h1, same_tup (same_hd M H) h3, by rw [h2.length, h4.length]; exact sz_of h, fun e => ?_, fun _ e => ?_, fun _ _ a ha => ?_⟩
      · subst e
        cases h2
        exact q _ _ H p (Same.refl H) (.tup h3 h4)
      · subst e
        cases h4
        exact q _ _ H (by simpa using p) (Same.refl H) (.tup h1 h2)
      · exact q _ _ _ p (same_new ha) (.tup (SqT.of (hd_new al ha)) ((h2.append h4).mono (same_hdM (same_new ha))))
end
end Pf

namespace Pf
open PySem L2 RZ PySem.Spec PyProof.Rows
/-! ### a def that returns a new list -/
def DoN (F : Fm) (ts : TS) (δ : List SD) (P : List D → Prop) : Prop := ∀ M σ H (E : Ends), Ctx F M σ H δ →
  (∀ p us es M' σ' H' δ', P es → Ctx F M' σ' H' δ' → H' p = some (.lst us) → F.H0 p = none → ¬ F.mv p → M' p = true → RepL F.K (hd M' H') us es → E.rt (.ref p) H') → ts E σ H
section
variable {F : Fm} {δ : List SD} {t u : TS} {te : TE} {tt : TT} {P : List D → Prop}
theorem dn_seq (h : Do F t δ { nx := fun δ' => DoN F u δ' P }) : DoN F (tSeq t u) δ P := fun M σ H E c q =>
  h M σ H { E with nx := u E } c (fun M' σ' H' δ' p c' s => p M' σ' H' E c' q) (fun _ _ _ _ _ _ p => p.elim) (fun _ _ _ _ p => p.elim) (fun _ _ _ _ p => p.elim)
theorem dn_if (h : EvT F tt δ fun b => (b = true → DoN F t δ P) ∧ (b = false → DoN F u δ P)) : DoN F (tIfS tt t u) δ P := fun M σ H E c q =>
  h M σ H _ c fun y H1 p c1 e => by
    cases y with
    | true => exact p.1 rfl M σ H1 E c1 q
    | false => exact p.2 rfl M σ H1 E c1 q
/-- if tt: return ..; the rest -/
theorem dn_ifS (h : EvT F tt δ fun b => (b = true → DoN F t δ P) ∧ (b = false → DoN F u δ P)) : DoN F (tSeq (tIfS tt t tNext) u) δ P := fun M σ H E c q =>
  h M σ H _ c fun y H1 p c1 e => by
    cases y with
    | true => exact p.1 rfl M σ H1 { E with nx := u E } c1 q
    | false => exact p.2 rfl M σ H1 E c1 q
theorem dn_ret (h : EvN F te δ P) : DoN F (tRet te) δ P := fun M σ H E c q =>
  h M σ H _ c fun p vs ds H' pd c' hp h0 hb no e hl r => q p vs ds (hid M p) σ H' δ pd c' hl h0 hb hid_same r
theorem dn_retO {i : Nat} {p : Addr} {es : List D} (hi : δ[i]? = some (.own p (.lst es))) (pe : P es) : DoN F (tRet (tVar i)) δ P := fun M σ H E c q => by
  obtain ⟨s, hs, e, m, ho, hp, rr⟩ := c.sl i _ hi
  subst e
  obtain ⟨h0, hb⟩ := c.oh i p _ hi
  cases rr with
  | @lst us _ rr => exact ⟨_, hs, q p us es M σ H δ pe c hp h0 hb m rr⟩
end
section
variable {K : PySem.W.Frag} {N : List Str} {vs : List V} {H : Hp} {Q : VK} {E : XK} {t : TS} {Pre : List D → Prop} {Post : List D → List D → Prop}
theorem enterNN (hs : spN K Pre Post vs H Q E) (hb : ∀ (M : Addr → Bool) (ds : List D), Pre ds → ds.length = vs.length → DoN ⟨K, none, M, H, E, 0, []⟩ t (slots N ds) (Post ds)) :
    t { nx := fun _ H' => Q .non H', rt := Q } (L2.start N vs) H := by
  obtain ⟨M, ds, al, r, pre, q⟩ := hs
  have hl := r.length
  have c : Ctx ⟨K, none, M, H, E, 0, []⟩ M (L2.start N vs) H (slots N ds) := by
    refine ⟨al, al, fun _ h => h, StepB.refl _ _, ⟨fun b z => (nomatch z), fun a h => (nomatch h)⟩, ?_, ?_, fun i j p es fs h1 h2 => absurd h1 no_own, fun i p es h => absurd h no_own⟩
    · unfold L2.start slots
      rw [List.length_append, List.length_append, List.length_map, List.length_map, List.length_replicate, List.length_replicate, hl]
    · unfold L2.start slots
      rw [hl]
      exact sl_base rfl _ r
  refine hb M ds pre hl.symm M _ H _ c fun p us es M' σ' H' δ' pd c' hp h0 hbn m r' => ?_
  refine q p us es H' pd h0 (fun a o h => c'.fr a o (mv_none rfl rfl a) h) hp (r'.mono (same_hd_le fun a h => ?_))
  by_cases ea : a = p
  · rw [ea]
    exact m
  · rw [hid_ne ea] at h
    exact c'.m0 a h
end
section
variable {F : Fm} {δ : List SD} {ta tk : TA} {te tb : TE} {P : List D → Prop} {E : XK} {Pre : List D → Prop} {Post : List D → List D → Prop}
theorem en_call (h : EvA F ta δ fun ds => Pre ds ∧ ∀ d, Post ds d → P d) : EvN F (tCall (spN F.K Pre Post) [] E ta) δ P := fun M σ H Q c q =>
  h M σ H _ c fun vs ds H1 p c1 e1 r => by
    rw [List.append_nil]
    refine ⟨M, ds, c1.al, r, p.1, fun a us es H2 pd hp s h2 r2 => ?_⟩
    have hp0 : H a = none := by
      cases z : H a with
      | none => rfl
      | some o =>
        have := e1 a o (c1.nob hp) z
        rw [hp] at this
        cases this
    exact q a us es H2 (p.2 es pd) (c1.take hp s h2) hp0 (c1.h0 hp) (c1.nob hp) (c1.nown hp) (e1.trans (StepB.of s)) h2 r2
theorem en_callK {gV : List V → List V → List V} {gD : List D → List D → List D} (hg : ∀ (H : Hp) (vs zs : List V) (ds es : List D), RepL F.K H vs ds → RepL F.K H zs es → RepL F.K H (gV vs zs) (gD ds es))
    (h : EvA F ta δ fun ds => EvA F tk δ fun es => Pre (gD ds es) ∧ ∀ d, Post (gD ds es) d → P d) : EvN F (tCallK (spN F.K Pre Post) gV E ta tk) δ P := fun M σ H Q c q =>
  h M σ H _ c fun vs ds H1 p c1 e1 r => p M σ H1 _ c1 fun zs es H2 p2 c2 e2 r2 => by
    refine ⟨M, gD ds es, c2.al, hg _ _ _ _ _ (r.mono (hd_step c1 e2)) r2, p2.1, fun a us fs H3 pd hp s h2 r3 => ?_⟩
    have hp0 : H a = none := by
      cases z : H a with
      | none => rfl
      | some o =>
        have := (e1.trans e2) a o (c2.nob hp) z
        rw [hp] at this
        cases this
    exact q a us fs H3 (p2.2 fs pd) (c2.take hp s h2) hp0 (c2.h0 hp) (c2.nob hp) (c2.nown hp) ((e1.trans e2).trans (StepB.of s)) h2 r3
end
/-! ### sum, min, max, the set of ints sorted, a deep in -/
def rSumK (K : PySem.W.Frag) : List V → Hp → VK → Prop := rSum K
theorem callSum (K : PySem.W.Frag) {X : Cx} (hc : X.calm = true := by rfl) (h : X.K = K := by rfl) : CallR X (.builtin "sum") (rSum K) := by subst h; exact cr_sum hc
theorem callMin (K : PySem.W.Frag) {X : Cx} (hc : X.calm = true := by rfl) (h : X.K = K := by rfl) : CallR X (.builtin "min") (rMin K) := by subst h; exact cr_min hc
theorem callMax (K : PySem.W.Frag) {X : Cx} (hc : X.calm = true := by rfl) (h : X.K = K := by rfl) : CallR X (.builtin "max") (rMax K) := by subst h; exact cr_max hc
theorem callSortSet (w : World) {X : Cx} (hc : X.calm = true := by rfl) (h : X.w = w := by rfl) : CallR X (.builtin "sorted") (rSortedSet w) := by subst h; exact cr_sortedSet hc
theorem opInD (K : PySem.W.Frag) {X : Cx} (hu : X.A.units + 65 < cLine) (h : X.K = K := by rfl) : OpR X (compareOp .In) (rInD K) := by subst h; exact op_inD hu
/-- set(t), t a tuple of ints -/
def rSetI (K : PySem.W.Frag) (w : World) : List V → Hp → VK → Prop := fun xs H Q => ∃ (l : Addr) (ns : List Int), xs = [.ref l] ∧ SqT K H l (ns.map V.int) ∧ ns.length < 63 ∧
  ∀ p c, H p = none → c < 64 → Q (.ref p) (upd H p (SetO w p (fun j => decide (j ∈ ns)) c))
theorem callSetI (K : PySem.W.Frag) (w : World) {X : Cx} (hc : X.calm = true := by rfl) (h : X.K = K := by rfl) (hw : X.w = w := by rfl) : CallR X (.type "set") (rSetI K w) := by
  subst h hw
  intro pins s σ H xs us Q I r h
  obtain ⟨l, ns, rfl, hq, hz, q⟩ := h
  obtain ⟨u, rfl, ru⟩ := r.one
  cases (show u = Value.ref l from ru)
  obtain ⟨its, rv, pt, _⟩ := I.tuple hq
  refine call_set_tupI ns (I.ok.hd hc) (show s.heap.IsTuple l its.toArray from pt) (ints_of_vals rv) (by unfold scanBound; omega) fun h' tk c R1 hcn k => ?_
  exact ⟨.ref _, upd H s.heap.objs.size (SetO X.w s.heap.objs.size (fun j => decide (j ∈ ns)) c), I.laid (t' := tk) k (Nat.le_refl _) (setO_new R1), rfl, q _ c (I.hok.fresh (Nat.le_refl _)) (by omega)⟩
def minI : List Int → Int
  | [] => 0
  | [x] => x
  | x :: y :: xs => min x (minI (y :: xs))
def maxI : List Int → Int
  | [] => 0
  | [x] => x
  | x :: y :: xs => max x (maxI (y :: xs))
theorem minI_le : ∀ {ns : List Int} {y : Int}, y ∈ ns → minI ns ≤ y
  | [x], y, h => by rw [List.mem_singleton.mp h]; exact Int.le_refl _
  | x :: z :: xs, y, h => by
    show min x (minI (z :: xs)) ≤ y
    rcases List.mem_cons.mp h with rfl | h
    · exact Int.min_le_left _ _
    · exact Int.le_trans (Int.min_le_right _ _) (minI_le h)
theorem minI_mem : ∀ {ns : List Int}, ns ≠ [] → minI ns ∈ ns
  | [], h => absurd rfl h
  | [x], _ => by simp [minI]
  | x :: z :: xs, _ => by
    have ih := minI_mem (ns := z :: xs) (by simp)
    show min x (minI (z :: xs)) ∈ _
    rcases Int.le_total x (minI (z :: xs)) with h | h
    · rw [Int.min_eq_left h]; simp
    · rw [Int.min_eq_right h]; exact List.mem_cons_of_mem _ ih
theorem le_maxI : ∀ {ns : List Int} {y : Int}, y ∈ ns → y ≤ maxI ns
  | [x], y, h => by rw [List.mem_singleton.mp h]; exact Int.le_refl _
  | x :: z :: xs, y, h => by
    show y ≤ max x (maxI (z :: xs))
    rcases List.mem_cons.mp h with rfl | h
    · exact Int.le_max_left _ _
    · exact Int.le_trans (le_maxI h) (Int.le_max_right _ _)
theorem maxI_mem : ∀ {ns : List Int}, ns ≠ [] → maxI ns ∈ ns
  | [], h => absurd rfl h
  | [x], _ => by simp [maxI]
  | x :: z :: xs, _ => by
    have ih := maxI_mem (ns := z :: xs) (by simp)
    show max x (maxI (z :: xs)) ∈ _
    rcases Int.le_total x (maxI (z :: xs)) with h | h
    · rw [Int.max_eq_right h]; exact List.mem_cons_of_mem _ ih
    · rw [Int.max_eq_left h]; simp
section
variable {K : PySem.W.Frag} {P : D → Prop} {ns : List Int}
theorem repL_ints {H : Hp} : ∀ {vs : List V} {ns : List Int}, RepL K H vs (ns.map .int) → vs = ns.map V.int
  | _, [], .nil => rfl
  | _, n :: ns, .cons (.int _) r => by rw [List.map_cons, repL_ints (ns := ns) r]
theorem cd_sum (p : P (.int ns.sum)) : CallD K (rSum K) [.lst (ns.map .int)] P := fun M H vs Q al r q => by
  cases r with
  | cons r1 r2 =>
    cases r2
    cases r1 with
    | lst h1 h2 =>
      have e := repL_ints h2
      subst e
      exact ⟨_, ns, rfl, SqL.of (hd_of h1).2, q _ _ H p (Same.refl H) (.int _)⟩
theorem cd_min (hn : ns ≠ []) (p : P (.int (minI ns))) : CallD K (rMin K) [.lst (ns.map .int)] P := fun M H vs Q al r q => by
  cases r with
  | cons r1 r2 =>
    cases r2
    cases r1 with
    | lst h1 h2 =>
      have e := repL_ints h2
      subst e
      refine ⟨_, ns, rfl, SqL.of (hd_of h1).2, List.length_pos_iff.mpr hn, fun m hm hle => ?_⟩
      have : m = minI ns := Int.le_antisymm (hle _ (minI_mem hn)) (minI_le hm)
      rw [this]
      exact q _ _ H p (Same.refl H) (.int _)
theorem cd_max (hn : ns ≠ []) (p : P (.int (maxI ns))) : CallD K (rMax K) [.lst (ns.map .int)] P := fun M H vs Q al r q => by
  cases r with
  | cons r1 r2 =>
    cases r2
    cases r1 with
    | lst h1 h2 =>
      have e := repL_ints h2
      subst e
      refine ⟨_, ns, rfl, SqL.of (hd_of h1).2, List.length_pos_iff.mpr hn, fun m hm hle => ?_⟩
      have : m = maxI ns := Int.le_antisymm (le_maxI hm) (hle _ (maxI_mem hn))
      rw [this]
      exact q _ _ H p (Same.refl H) (.int _)
theorem od_inD {x : D} {ds : List D} (px : plainD x = true) (py : plainL ds = true) (sx : SeqAt.shaped (pyd x) = true) (sy : SeqAt.shaped (pyd (.lst ds)) = true) (p : P (.bl (ds.any fun z => PyData.eqv (pyd z) (pyd x)))) : OpD K (rInD K) x (.lst ds) P := fun M H v w Q al r1 r2 q => by
  have e : pyd (.lst ds) = .list (ds.map pyd) := by simp only [pyd, pydL_map]
  refine ⟨_, ds.map pyd, rep_dp (r1.mono (same_hd M H)) px, ?_, sx, by rw [← e]; exact sy, ?_⟩
  · rw [← e]
    exact rep_dp (r2.mono (same_hd M H)) (by simp only [plainD]; exact py)
  · rw [List.any_map]
    exact q _ _ H p (Same.refl H) (.bl _)
end
/-- one ascending list of the members -/
theorem asc_uniq : ∀ {xs ys : List Int}, xs.Pairwise (· < ·) → ys.Pairwise (· < ·) → (∀ k, k ∈ xs ↔ k ∈ ys) → xs = ys
  | [], [], _, _, _ => rfl
  | [], y :: ys, _, _, h => absurd ((h y).mpr (by simp)) (by simp)
  | x :: xs, [], _, _, h => absurd ((h x).mp (by simp)) (by simp)
  | x :: xs, y :: ys, hx, hy, h => by
    obtain ⟨hx1, hx2⟩ := List.pairwise_cons.mp hx
    obtain ⟨hy1, hy2⟩ := List.pairwise_cons.mp hy
    have e : x = y := by
      rcases List.mem_cons.mp ((h x).mp (by simp)) with e | h1
      · exact e
      rcases List.mem_cons.mp ((h y).mpr (by simp)) with e | h2
      · exact e.symm
      have := hy1 x h1
      have := hx1 y h2
      omega
    subst e
    rw [asc_uniq hx2 hy2 fun k => ⟨fun hk => ?_, fun hk => ?_⟩]
    · rcases List.mem_cons.mp ((h k).mp (List.mem_cons_of_mem _ hk)) with rfl | h1
      · exact absurd (hx1 k hk) (Int.lt_irrefl _)
      · exact h1
    · rcases List.mem_cons.mp ((h k).mpr (List.mem_cons_of_mem _ hk)) with rfl | h1
      · exact absurd (hy1 k hk) (Int.lt_irrefl _)
      · exact h1
section
variable {F : Fm} {δ : List SD} {te : TE} {PL : List D → Prop} {w : World}
/-- sorted(set(t)), t ascending -/
theorem en_sortSet (h : Ev F te δ fun d => ∃ ns : List Int, d = .tup (ns.map .int) ∧ ns.Pairwise (· < ·) ∧ ns.length < 63 ∧ PL (ns.map .int)) : EvN F (tCB (rSortedSet w) (tCons (tCB (rSetI F.K w) (tCons te tNil)) tNil)) δ PL := fun M σ H Q c q =>
  h M σ H _ c fun v d H1 p c1 e1 r => by
    obtain ⟨ns, rfl, pw, hz, pz⟩ := p
    cases r with
    | @tup a vs _ h1 h2 =>
      have e := repL_ints h2
      subst e
      refine ⟨a, ns, rfl, same_tup (same_hd M H1) h1, hz, fun p n hp hn => ?_⟩
      refine ⟨p, _, n, rfl, upd_same, hn, fun ms l pm hm hl hl0 => ?_⟩
      have e : ms = ns := asc_uniq pm pw fun k => by rw [hm k, decide_eq_true_eq]
      subst e
      have c2 := c1.same (same_new (o := SetO w p (fun j => decide (j ∈ ms)) n) hp)
      have k2 : StepB F.mv H (upd H1 p (SetO w p (fun j => decide (j ∈ ms)) n)) := e1.trans (StepB.of (same_new hp))
      have hl1 : H l = none := by
        cases z : H l with
        | none => rfl
        | some o =>
          have := k2 l o (c2.nob hl0) z
          rw [hl0] at this
          cases this
      refine q l _ (ms.map .int) _ pz (c2.hide hl0) hl1 (c2.h0 hl0) (c2.nob hl0) (c2.nown hl0) (k2.trans (StepB.of (same_new hl0))) upd_same ?_
      have : ∀ (H : Hp) (l : List Int), RepL F.K H (l.map V.int) (l.map D.int) := fun H l => by
        induction l with
        | nil => exact .nil
        | cons x l ih => exact .cons (.int _) ih
      exact this _ _
end
theorem room65 {k : Nat} {A : Around} (r : Room k A) : A.units + 65 < cLine := by have := r.un; omega
/-! ### values known -/
section
variable {F : Fm} {δ : List SD} {ta tb te : TE} {tt tu : TT} {P : D → Prop} {x y z : D} {a b : Bool} {i j : Int}
theorem Ev.val {v : D} (h : Ev F te δ (· = v)) (p : P v) : Ev F te δ P := h.imp fun d e => by rw [e]; exact p
theorem v_var {k : Nat} (h : δ[k]? = some (.dat x)) : Ev F (tVar k) δ (· = x) := ev_var h rfl
theorem v_and (h1 : Ev F ta δ (· = .bl a)) (h2 : Ev F tb δ (· = .bl b)) : Ev F (tAndV ta tb) δ (· = .bl (a && b)) :=
  ev_and (h1.val ⟨a, rfl, fun e => h2.val (by rw [e]; rfl), fun e => by rw [e]; rfl⟩)
theorem v_or (h1 : Ev F ta δ (· = .bl a)) (h2 : Ev F tb δ (· = .bl b)) : Ev F (tOrV ta tb) δ (· = .bl (a || b)) :=
  ev_or (h1.val ⟨a, rfl, fun e => h2.val (by rw [e]; rfl), fun e => by rw [e]; rfl⟩)
theorem v_not (h1 : Ev F ta δ (· = .bl a)) : Ev F (tNotV ta) δ (· = .bl (!a)) := ev_not (h1.val ⟨a, rfl, rfl⟩)
theorem v_op {r : R2} (h1 : Ev F ta δ (· = x)) (h2 : Ev F tb δ (· = y)) (h : OpD F.K r x y (· = z)) : Ev F (tOp r ta tb) δ (· = z) := ev_op (h1.val (h2.val h))
theorem v_cmp {g : Int → Int → Bool} (h1 : Ev F ta δ (· = .int i)) (h2 : Ev F tb δ (· = .int j)) : Ev F (tOp (rI0 fun i j => .bl (g i j)) ta tb) δ (· = .bl (g i j)) := v_op h1 h2 (od_bl rfl)
theorem v_ari {g : Int → Int → Int} (h1 : Ev F ta δ (· = .int i)) (h2 : Ev F tb δ (· = .int j)) : Ev F (tOp (rI0 fun i j => .int (g i j)) ta tb) δ (· = .int (g i j)) := v_op h1 h2 (od_int rfl)
theorem v_eqS {s t : Str} (h1 : Ev F ta δ (· = .str s)) (h2 : Ev F tb δ (· = .str t)) : Ev F (tOp rEq ta tb) δ (· = .bl (decide (s = t))) := v_op h1 h2 (od_eq_str rfl)
theorem v_neS {s t : Str} (h1 : Ev F ta δ (· = .str s)) (h2 : Ev F tb δ (· = .str t)) : Ev F (tOp rNe ta tb) δ (· = .bl (!decide (s = t))) := v_op h1 h2 (od_ne_str rfl)
theorem v_isN (h1 : Ev F ta δ (· = x)) : Ev F (tOp (fun x y H Q => y = .non ∧ Q (.bl (decide (x = .non))) H) ta (tC .non)) δ (· = .bl (isNon x)) := v_op h1 (ev_non rfl) (ud_isN rfl)
theorem v_notN (h1 : Ev F ta δ (· = x)) : Ev F (tOp (fun x y H Q => y = .non ∧ Q (.bl (!decide (x = .non))) H) ta (tC .non)) δ (· = .bl (!isNon x)) := v_op h1 (ev_non rfl) (ud_notN rfl)
theorem v_inS2 {s t u : Str} (h1 : Ev F ta δ (· = .str s)) : Ev F (tOp (rIn F.K false) ta (tTup (tCons (tC (.str t)) (tCons (tC (.str u)) tNil)))) δ (· = .bl (decide (s ∈ ([t, u] : List Str)))) :=
  ev_op (h1.val (ev_tup (ea_cons (ev_str (ea_cons (ev_str (ea_nil ⟨by simp, od_inStrs (zs := [t, u]) (neg := false) (t := true) rfl⟩)))))))
theorem v_inS2L {s t u : Str} (h1 : Ev F ta δ (· = .str s)) : Ev F (tOp (rIn F.K false) ta (tLst (tCons (tC (.str t)) (tCons (tC (.str u)) tNil)))) δ (· = .bl (decide (s ∈ ([t, u] : List Str)))) :=
  ev_op (h1.val (ev_lst (ea_cons (ev_str (ea_cons (ev_str (ea_nil ⟨by simp, od_inStrs (zs := [t, u]) (neg := false) (t := false) rfl⟩)))))))
theorem v_sum {ns : List Int} (h : Ev F te δ (· = .lst (ns.map .int))) : Ev F (tCB (rSum F.K) (tCons te tNil)) δ (· = .int ns.sum) := ev_cb (ea_cons (h.val (ea_nil (cd_sum rfl))))
theorem v_min {ns : List Int} (hn : ns ≠ []) (h : Ev F te δ (· = .lst (ns.map .int))) : Ev F (tCB (rMin F.K) (tCons te tNil)) δ (· = .int (minI ns)) := ev_cb (ea_cons (h.val (ea_nil (cd_min hn rfl))))
theorem v_max {ns : List Int} (hn : ns ≠ []) (h : Ev F te δ (· = .lst (ns.map .int))) : Ev F (tCB (rMax F.K) (tCons te tNil)) δ (· = .int (maxI ns)) := ev_cb (ea_cons (h.val (ea_nil (cd_max hn rfl))))
theorem v_len {k : Nat} (hk : lenD x = some k) (hz : k ≤ 100000) (h : Ev F te δ (· = x)) : Ev F (tCB (rLenK F.K) (tCons te tNil)) δ (· = .int (k : Int)) := ev_cb (ea_cons (h.val (ea_nil (cd_lenK hk hz rfl))))
theorem v_ixT {ds : List D} (he : atI ds i = some z) (h1 : Ev F ta δ (· = .tup ds)) (h2 : Ev F tb δ (· = .int i)) : Ev F (tOp (rIxT F.K) ta tb) δ (· = z) := v_op h1 h2 (od_ixT he rfl)
theorem v_ixL {ds : List D} (he : atI ds i = some z) (h1 : Ev F ta δ (· = .lst ds)) (h2 : Ev F tb δ (· = .int i)) : Ev F (tOp (rIxL F.K) ta tb) δ (· = z) := v_op h1 h2 (od_ixL he rfl)
theorem EvT.val {PT : Bool → Prop} (h : EvT F tt δ (· = b)) (p : PT b) : EvT F tt δ PT := h.imp fun d e => by rw [e]; exact p
theorem vt_test (h : Ev F te δ (· = .bl b)) : EvT F (tTest te) δ (· = b) := et_test (h.val ⟨b, rfl, rfl⟩)
theorem vt_and (h1 : EvT F tt δ (· = a)) (h2 : EvT F tu δ (· = b)) : EvT F (tAnd tt tu) δ (· = (a && b)) :=
  et_and (h1.val ⟨fun e => h2.val (by rw [e]; rfl), fun e => by rw [e]; rfl⟩)
theorem vt_or (h1 : EvT F tt δ (· = a)) (h2 : EvT F tu δ (· = b)) : EvT F (tOr tt tu) δ (· = (a || b)) :=
  et_or (h1.val ⟨fun e => h2.val (by rw [e]; rfl), fun e => by rw [e]; rfl⟩)
theorem vt_not (h1 : EvT F tt δ (· = a)) : EvT F (tNot tt) δ (· = (!a)) := et_not (h1.val rfl)
theorem do_ifV {t u : TS} {R : PD} (h : EvT F tt δ (· = b)) (k1 : b = true → Do F t δ R) (k2 : b = false → Do F u δ R) : Do F (tIfS tt t u) δ R := do_if (h.val ⟨k1, k2⟩)
/-- a, b, c = x, y, z -/
theorem do_par3 {tc : TE} {R : PD} {i j l : Nat} (h : Ev F ta δ fun x => Ev F tb δ fun y => Ev F tc δ fun z => R.nx (((δ.set i (.dat x)).set j (.dat y)).set l (.dat z))) : Do F (tPar3 i j l (tCons ta (tCons tb (tCons tc tNil)))) δ R := fun M σ H E c a b k d =>
  h M σ H _ c fun v x H1 p1 c1 e1 r1 => p1 M σ H1 _ c1 fun w y H2 p2 c2 e2 r2 => p2 M σ H2 _ c2 fun u z H3 p3 c3 e3 r3 =>
    ⟨v, w, u, rfl, a M _ H3 _ p3 (((c3.set i (r1.mono ((hd_step c1 e2).trans (hd_step c2 e3)))).set j (r2.mono (hd_step c2 e3))).set l r3) (((hd_step c e1).trans (hd_step c1 e2)).trans (hd_step c2 e3))⟩
end
end Pf

/-! an error of an own class made as a value: with keywords too, over any built-in base -/
namespace PySem
namespace PfX
open PySem.W PySem.Calls PyProof.Rows PySem.HandSPX
section
variable {prog : Program} {w : World} {A : Around} {E : Value → Shared → Prop} {R : Result → Shared → Prop} {h : Heap} {g : Array GenState} {d : Drawn} {t : Nat} {os : OsState}
variable {nm q : Str} {C N : Addr} {bs bm tl : List Value} {hdct : Bool} {sn : List Str} {sub : List Value} {ab : Bool} {col : Option Bool} {dd : Option Addr} {k0 k1 k2 k3 k5 : Option Value} {B nI iI : String}
/-- base.__new__(C, .., k = v) is let -/
theorem xk_let (F : ExcBaseFacts B nI iI tl) (hT : ∀ X : String, bm.contains (.type X) = tl.contains (.type X)) {us : List Value} {ks : List (Str × Value)} {Q : Unit → Shared → Prop}
    (hC : h.get? C = some (excClassObj nm q C N bs bm hdct sn sub ab col dd k0 k1 k2 k3 k5 nI)) (z : Q () ⟨h, g, d, t, os⟩) : wpAny (model prog w) A (checkBuiltinCall nI ⟨.ref C :: us, ks⟩) Q E ⟨h, g, d, t, os⟩ := by
  have cB : (Value.ref C :: bm).contains (.type B) = true := by simp only [List.contains_cons, hT, F.hasB, Bool.or_true]
  have st := F.noStar
  simp only [checkBuiltinCall, F.newKind, F.newSplit, F.newRow]
  repeat (first | refine wpAny_loadPart_at hC ?_ | (refine wpAny_isSubtype_exc hC ?_; rw [cB]) | refine wpAny_staticBase_exc hC ?_ | refine wpAny_madeBy_exc hC ?_ | simp only [bne_self_eq_false, Bool.false_eq_true, if_false] | wp_step)
  exact z
/-- base.__new__(C, .., k = v) -/
theorem xk_new (F : ExcBaseFacts B nI iI tl) (hT : ∀ X : String, bm.contains (.type X) = tl.contains (.type X)) {us : List Value} {ks : List (Str × Value)}
    (hC : h.get? C = some (excClassObj nm q C N bs bm hdct sn sub ab col dd k0 k1 k2 k3 k5 nI)) (hl : us.length ≤ sizeLine)
    (z : R (.ok (.ret (.ref (h.objs.size + 1)))) ⟨(h.push (kdv_tup us)).push (excO C h.objs.size), g, d, t, os⟩) : codeAny (model prog w) A (.builtin nI ⟨.ref C :: us, ks⟩) R ⟨h, g, d, t, os⟩ := by
  have e1 := F.ends
  have cB : (Value.ref C :: bm).contains (.type B) = true := by simp only [List.contains_cons, hT, F.hasB, Bool.or_true]
  have cA : (Value.ref C :: bm).contains (.type "AttributeError") = false := by simp only [List.contains_cons, hT, F.noAttr]; rfl
  have cN : (Value.ref C :: bm).contains (.type "NameError") = false := by simp only [List.contains_cons, hT, F.noName]; rfl
  refine codeAny_builtinAt F.entry ?_
  unfold Builtin.«BaseException.__new__»
  refine wpAt_bind ?_
  show wpAt _ _ _ (stack >>= _) _ _ _
  refine wpAt_bind (wpAt_stack fun p below => wpAt_of_wpAny ?_)
  wp_walk
  refine wpAt_of_wpAny ?_
  rw [F.owner]
  repeat (first | with_reducible refine wpAny_madeHere_exc F.canon hC ?_ | with_reducible refine wpAny_loadPart_at hC ?_ | (with_reducible refine wpAny_isSubtype_exc hC ?_; first | rw [cB] | rw [cA] | rw [cN]) | wp_step)
  show R _ _
  rw [Heap.size_push]
  exact z
/-- type.__call__(C, .., k = v): C's own __init__ is asked -/
theorem xk_type (F : ExcBaseFacts B nI iI tl) (hT : ∀ X : String, bm.contains (.type X) = tl.contains (.type X)) {us : List Value} {ks : List (Str × Value)} {fI : Addr} {Q : Fin → Shared → Prop}
    (hC : h.get? C = some (excClassObj nm q C N bs bm hdct sn sub ab col dd k0 k1 k2 k3 k5 nI)) (hl : us.length ≤ sizeLine)
    (hi : Looks (model prog w) h (typeLookup (.ref C) "__init__") (some (.ref fI))) (hb : ∀ self, Looks (model prog w) h (bindSpecial (.ref fI) self) (.ref fI, [self]))
    (z : codeAny (model prog w) A (.call (.ref fI) ⟨.ref (h.objs.size + 1) :: us, ks⟩) (fun r s' => match r with | .ok (.ret v) => v = .none ∧ Q (.done (.ret (.ref (h.objs.size + 1)))) s' | .ok _ => False | .error e => E e s') ⟨(h.push (kdv_tup us)).push (excO C h.objs.size), g, d, t, os⟩) :
    wpAny (model prog w) A (Builtin.«type.__call__» ⟨.ref C :: us, ks⟩) Q E ⟨h, g, d, t, os⟩ := by
  have k : ∀ b o, h.get? b = some o → ((h.push (kdv_tup us)).push (excO C h.objs.size)).get? b = some o := fun b o e => Heap.get?_push_of_some _ (Heap.get?_push_of_some _ e)
  have hx : ((h.push (kdv_tup us)).push (excO C h.objs.size)).get? (h.objs.size + 1) = some (excO C h.objs.size) := by heap_get
  have hC' := k _ _ hC
  have own : (Value.ref C :: bm).contains (.ref C) = true := by simp
  repeat (first | with_reducible refine wpAny_loadPart_at hC ?_ | with_reducible refine wpAny_madeBy_exc hC ?_ | wp_step)
  refine codeAny_call_builtin_code (Code.quiet_builtin _ F.quiet) (xk_let F hT hC (xk_new F hT hC hl ?_))
  show wpAny _ _ _ _ _ _
  unfold isInstance
  repeat (first | with_reducible refine wpAny_loadPart_at hx ?_ | (with_reducible refine wpAny_isSubtype_exc hC' ?_; rw [own]) | wp_step)
  show wpAny _ _ (typeLookup (.ref C) _) _ _ _
  refine (hi.keeps k).at (wpAny_holding (wpAny_bind (((hb _).keeps k).at (wpAny_bind (wpAny_call (codeAny_mono z fun r s' y => ?_))))))
  rcases r with e | (v | _ | _ | _) <;> first | exact y | exact y.elim | skip
  obtain ⟨rfl, y⟩ := y
  first
    | exact wpAny_pure (wpAny_pure y)
    | (wp_walk; exact y)
/-- C(.., k = v) -/
theorem xk_call (F : ExcBaseFacts B nI iI tl) (hT : ∀ X : String, bm.contains (.type X) = tl.contains (.type X)) {us : List Value} {ks : List (Str × Value)} {fI : Addr}
    (hC : h.get? C = some (excClassObj nm q C N bs bm hdct sn sub ab col dd k0 k1 k2 k3 k5 nI)) (hl : us.length ≤ sizeLine)
    (hi : Looks (model prog w) h (typeLookup (.ref C) "__init__") (some (.ref fI))) (hb : ∀ self, Looks (model prog w) h (bindSpecial (.ref fI) self) (.ref fI, [self]))
    (z : codeAny (model prog w) (A.under (.builtin "type.__call__" ⟨.ref C :: us, ks⟩)) (.call (.ref fI) ⟨.ref (h.objs.size + 1) :: us, ks⟩) (InitBack (h.objs.size + 1) R) ⟨(h.push (kdv_tup us)).push (excO C h.objs.size), g, d, t, os⟩) :
    codeAny (model prog w) A (.call (.ref C) ⟨us, ks⟩) R ⟨h, g, d, t, os⟩ := by
  have f1 := tc_lookup
  have f2 := tc_bind (.ref C)
  have ty : (⟨h, g, d, t, os⟩ : Shared).TypeIs (.ref C) "type" := ⟨_, hC, rfl⟩
  refine codeAny_of_tree ?_
  show wpAny _ _ (callAny (.ref C) _) _ _ _
  repeat (any_goals (first | assumption | with_reducible refine wpAny_loadPart_at hC ?_ | wp_step))
  refine ⟨rfl, ?_⟩
  refine codeAny_call_builtin_at (Code.quiet_builtin _ (by decide +kernel)) entry_typeCall (wpAny_check_type_call_sub hC (xk_type F hT hC hl hi hb ?_))
  refine codeAny_mono z fun r s' y => ?_
  rcases r with e | (v | _ | _ | _) <;> exact y
end
end PfX
end PySem

namespace PySem
namespace PfX
open PySem.W PySem.Calls PyProof.Rows PySem.HandSPX
/-! a built-in base of errors, as far as a store of a field asks of it -/
structure XT (B nI iI : String) (tl : List Value) : Prop where
  F : ExcBaseFacts B nI iI tl
  pass : ∀ self, refuseLoop self "__setattr__" tl = pure ()
  ob : tl.contains (.type "object") = true
theorem xt_VE : XT "ValueError" "ValueError.__new__" "ValueError.__init__" [.type "ValueError", .type "Exception", .type "BaseException", .type "object"] := ⟨F.excBase_ValueError, fun s => F.store_ValueError.passes s, by decide +kernel⟩
theorem xt_LE : XT "LookupError" "LookupError.__new__" "LookupError.__init__" [.type "LookupError", .type "Exception", .type "BaseException", .type "object"] := ⟨F.excBase_LookupError, fun s => by kernel_rfl, by decide +kernel⟩
theorem xt_IE : XT "IndexError" "IndexError.__new__" "IndexError.__init__" [.type "IndexError", .type "LookupError", .type "Exception", .type "BaseException", .type "object"] := ⟨F.excBase_IndexError, fun s => by kernel_rfl, by decide +kernel⟩
/-- own classes, then the base's -/
def overT (tl : List Value) : List Value → Bool
  | [] => false
  | v :: r => match v with
    | .ref _ => overT tl r
    | u => (u :: r) == tl
theorem overT_cases {tl : List Value} {v : Value} {r : List Value} (e : overT tl (v :: r) = true) : (∃ c, v = .ref c ∧ overT tl r = true) ∨ v :: r = tl := by
  cases v <;> first | exact .inl ⟨_, rfl, e⟩ | exact .inr (beq_iff_eq.mp e)
theorem overT_pass {B nI iI : String} {tl : List Value} (T : XT B nI iI tl) (self : Value) : ∀ l : List Value, overT tl l = true → refuseLoop self "__setattr__" l = pure ()
  | [], e => nomatch e
  | v :: r, e => by
    rcases overT_cases e with ⟨c, rfl, q⟩ | q
    · rw [refuseLoop_ref]
      exact overT_pass T self r q
    · rw [q]
      exact T.pass self
theorem overT_con {tl : List Value} (X : String) : ∀ l : List Value, overT tl l = true → l.contains (.type X) = tl.contains (.type X)
  | [], e => nomatch e
  | v :: r, e => by
    rcases overT_cases e with ⟨c, rfl, q⟩ | q
    · rw [List.contains_cons, overT_con X r q]
      rfl
    · rw [q]
theorem overT_ne {tl : List Value} : ∀ {l : List Value}, overT tl l = true → l.isEmpty = false
  | [], e => nomatch e
  | _ :: _, _ => rfl
section
open Builtin Builtin.ObjectAttr
variable {prog : Program} {w : World} {A : Around} {R : Result → Shared → Prop} {hp : Heap} {g : Array GenState} {d : Drawn} {t : Nat} {os : OsState}
/-- x.name = v on an error, up to the store in its own dict -/
theorem osa_to {K : Frag} {name : Str} {tk : Tok} {v : Value} {x C : Addr} {od : Option Obj} {ox : Obj} {cd : ClassData} {B nI iI : String} {tl : List Value} (T : XT B nI iI tl)
    (X : K.In hp) (I : InstAt hp x ox C od) (hcd : clsIn K C = some cd) (hm : overT tl cd.mro = true) (ha : findIn K (.ref C) name = some none)
    (z : wpAny (model prog w) (A.under (.builtin "object.__setattr__" ⟨[.ref x, .str name tk, v], []⟩)) (storeInOwnDict (.ref x) (.ref C) (.str name tk) name v false) (fun fin s' => match fin with | .done f => R (.ok f) s' | .again c => c.quiet = true ∧ codeAny (model prog w) A c R s') (fun e s' => R (.error e) s') ⟨hp, g, d, t, os⟩) :
    codeAny (model prog w) A (.call (.builtin "object.__setattr__") ⟨[.ref x, .str name tk, v], []⟩) R ⟨hp, g, d, t, os⟩ := by
  have ob : cd.mro.contains (.type "object") = true := (overT_con _ _ hm).trans T.ob
  have isO : Looks (model prog w) hp (isInstance (.ref x) (.type "object")) true := I.type.andThen (looks_mroIn X (by unfold mroIn; rw [hcd, Option.bind_some, if_neg (by rw [overT_ne hm]; decide), ob]))
  refine codeAny_call_builtin F.store_object.slot.plain F.store_object.entry (@check_slot (model prog w) _ _ ⟨hp, g, d, t, os⟩ "object.__setattr__" "object" "__setattr__" (.ref x) [.str name tk, v] [] _ F.store_object.kind F.store_object.split isO (F.store_object.args (.ref x) (.str name tk) v) ?_)
  have mr : Looks (model prog w) hp (mroOf (.ref C)) cd.mro := (looks_clsIn X hcd).andThen .now
  have no : Looks (model prog w) hp (storeTaker? none) none := .now
  rw [osa_eq, refuse_eq]
  refine wpAny_bind (wpAny_bind (I.type.at (wpAny_bind (mr.at ?_))))
  rw [overT_pass T _ _ hm]
  exact wpAny_pure (wpAny_bind (I.type.at (wpAny_bind ((looks_findIn X ha).at (wpAny_bind (no.at z))))))
end
end PfX
end PySem

namespace PySem
namespace PfX
open PySem.W PySem.Calls PyProof.Rows PySem.HandSPX
section
open Builtin Builtin.ObjectAttr
variable {M : Model} {A : Around} {E : Value → Shared → Prop} {Q : Fin → Shared → Prop} {hp : Heap} {g : Array GenState} {d : Drawn} {t : Nat} {os : OsState}
variable {nm q : Str} {C N x : Addr} {bs bm : List Value} {sn : List Str} {sub : List Value} {ab : Bool} {col : Option Bool} {dd : Option Addr} {k0 k1 k2 k3 k5 : Option Value} {nI : String} {name : Str} {tk : Tok} {v : Value} {fv : Array Value}
/-- the first field of an error: its dict is laid -/
theorem own_first (hC : hp.get? C = some (excClassObj nm q C N bs bm true sn sub ab col dd k0 k1 k2 k3 k5 nI)) (hx : hp.get? x = some { cls := .ref C, data := .fields fv })
    (z : ∀ h' tk' dx, hp.objs.size ≤ dx → (∀ b o, b ≠ x → hp.get? b = some o → h'.get? b = some o) → h'.get? x = some { cls := .ref C, dict := some dx, data := .fields fv } → h'.Ns1 dx (fun y => if y = name then some v else none) → Q (.done (.ret .none)) ⟨h', g, d, tk', os⟩) :
    wpAny M A (storeInOwnDict (.ref x) (.ref C) (.str name tk) name v false) Q E ⟨hp, g, d, t, os⟩ := by
  have new : x ≠ hp.objs.size := Nat.ne_of_lt (Heap.lt_size hx)
  have cl : Looks M hp (classData C) { name := nm, bases := bs, mro := .ref C :: bm, ns := N, qualname := q, hasDict := true, slotNames := sn, subclasses := sub, abstract := ab, collection := col } := by
    intro A' Q' E' s' k q'
    unfold classData
    exact wpAny_bind (wpAny_loadPart (k _ _ hC) (wpAny_pure q'))
  unfold storeInOwnDict ownDictForStores
  repeat (first | with_reducible refine store_in_new ?_ ?_ | with_reducible refine wpAny_loadPart_at hx ?_ | with_reducible refine cl.at ?_ | wp_step)
  · refine ⟨_, #[], _, (Heap.get?_update_ne _ _ _ _ new.symm).trans (Heap.get?_push_at rfl rfl), rfl, fun e he => absurd he (by simp), fun _ => rfl⟩
  · intro h' tk' ns sm
    refine z h' tk' hp.objs.size (Nat.le_refl _) (fun b o ne ho => ?_) ?_ ns
    · exact (sm.2 b (Nat.ne_of_lt (Heap.lt_size ho))).trans ((Heap.get?_update_ne _ _ _ _ ne).trans (Heap.get?_push_of_some _ ho))
    · exact (sm.2 x new).trans (Heap.get?_update_self _ (Heap.get?_push_of_some _ hx) rfl)
/-- a further field -/
theorem own_more {dx : Addr} {m0 : Str → Option Value} {nl : List Str} (hC : hp.get? C = some (excClassObj nm q C N bs bm true sn sub ab col dd k0 k1 k2 k3 k5 nI)) (hx : hp.get? x = some { cls := .ref C, dict := some dx, data := .fields fv })
    (hn : hp.Ns1 dx m0) (hw : Within m0 nl) (hl : nl.length ≤ 1000)
    (z : ∀ h' tk', (∀ b o, b ≠ dx → hp.get? b = some o → h'.get? b = some o) → h'.Ns1 dx (fun y => if y = name then some v else m0 y) → Q (.done (.ret .none)) ⟨h', g, d, tk', os⟩) :
    wpAny M A (storeInOwnDict (.ref x) (.ref C) (.str name tk) name v false) Q E ⟨hp, g, d, t, os⟩ := by
  have cl : Looks M hp (classData C) { name := nm, bases := bs, mro := .ref C :: bm, ns := N, qualname := q, hasDict := true, slotNames := sn, subclasses := sub, abstract := ab, collection := col } := by
    intro A' Q' E' s' k q'
    unfold classData
    exact wpAny_bind (wpAny_loadPart (k _ _ hC) (wpAny_pure q'))
  unfold storeInOwnDict ownDictForStores
  repeat (first | with_reducible refine OEX.store_in_old hn hw hl ?_ | with_reducible refine wpAny_loadPart_at hx ?_ | with_reducible refine cl.at ?_ | wp_step)
  intro h' tk' ns sm
  exact z h' tk' (fun b o ne ho => (sm.2 b ne).trans ho) ns
end
end PfX
end PySem
namespace Pf
open PySem L2 PySem.Spec PyProof.Rows
/-- what the written part says of a class of errors -/
structure XCls (K : PySem.W.Frag) (C : Addr) : Prop where
  cls : ∃ nm q N bs bm sn sub ab col dd k0 k1 k2 k3 k5 B nI iI tl, PySem.PfX.XT B nI iI tl ∧ PySem.PfX.overT tl bm = true ∧ K.lookup C = some (excClassObj nm q C N bs bm true sn sub ab col dd k0 k1 k2 k3 k5 nI)
  sa : PySem.W.findIn K (.ref C) "__setattr__" = some (some (.builtin "object.__setattr__"))
  kC : PySem.W.keepIn K (.ref C) = true
  is : ExcC K C
section
variable {X : Cx} {pins : List (Addr × Obj)} {σ : L2.St} {H : Hp} {s : Shared} {a C dx : Addr} {f : Str} {y : V} {u : Value} {fs : List (Str × V)} {Q : Unit → Shared → Prop} {E : Value → Shared → Prop} {A : Around}
theorem xst_first (T : XCls X.K C) (I : Inv X pins σ H s) (e : H a = some (exo a C none)) (no : PySem.W.findIn X.K (.ref C) f = some none) (ry : RelV y u)
    (h : ∀ dx s', H dx = none → dx ≠ a → Inv X pins σ (upd (upd H a (exo a C (some dx))) dx (exd dx [(f, y)])) s' → Q () s') : wpAny (model X.prog X.w) A (setAttr (.ref a) f u) Q E s := by
  obtain ⟨nm, q, N, bs, bm, sn, sub, ab, col, dd, k0, k1, k2, k3, k5, B, nI, iI, tl, xt, ot, hC⟩ := T.cls
  have hcl : PySem.W.clsIn X.K C = some { name := nm, bases := bs, mro := .ref C :: bm, ns := N, qualname := q, hasDict := true, slotNames := sn, subclasses := sub, abstract := ab, collection := col } := by unfold PySem.W.clsIn; rw [hC] <;> rfl
  obtain ⟨t1, ho⟩ := exo_at I.hok e
  obtain ⟨hp, g, d, t, os⟩ := s
  refine PySem.W.set_plain I.kIn (od := none) ⟨ho, rfl, rfl, trivial⟩ T.sa (PySem.PfX.osa_to xt I.kIn (od := none) ⟨ho, rfl, rfl, trivial⟩ hcl (show PySem.PfX.overT tl (.ref C :: bm) = true from ot) no ?_)
  refine PySem.PfX.own_first (I.kIn _ _ hC) ho fun h' tk' dx le k hx hn => ?_
  have n0 : H dx = none := I.hok.fresh le
  have na : dx ≠ a := fun z => by
    rw [z, e] at n0
    cases n0
  obtain ⟨G, g1, g2⟩ := restrict h' fun b => decide (b ≠ dx)
  have gk : ∀ b, b ≠ dx → G.get? b = h'.get? b := fun b hb => g1 b (decide_eq_true hb)
  have gn : G.get? dx = none := g2 dx (by simp)
  have ga : G.get? a = some { cls := .ref C, dict := some dx, data := .fields #[.ref t1, .none, .none, .none, .bool false, .none] } := (gk a na.symm).trans hx
  have I1 := I.write (h' := G) (t' := tk') (x := a) (e := a) (o := exo a C (some dx)) (by rw [e]; exact True.intro) (.inl rfl) (fun b o ne ho => (gk b (Nat.ne_of_lt (Nat.lt_of_lt_of_le (Heap.lt_size ho) le))).trans (k b o ne ho)) ⟨_, ga⟩ (exo_ok ga)
  refine h dx _ n0 na (I1.laidN (h' := h') (t' := tk') (a := dx) (o := exd dx [(f, y)]) (fun b o ho => ?_) gn (by rw [upd_ne na]; exact n0) (exd_ok hn (relO_put (fs := []) ry fun _ => True.intro)))
  by_cases hb : b = dx
  · subst hb
    exact absurd (gn.symm.trans ho) (by simp)
  · exact (gk b hb).symm.trans ho
theorem xst_more (T : XCls X.K C) (I : Inv X pins σ H s) (e : H a = some (exo a C (some dx))) (ed : H dx = some (exd dx fs)) (hl : fs.length ≤ 900) (no : PySem.W.findIn X.K (.ref C) f = some none) (ry : RelV y u)
    (h : ∀ s', Inv X pins σ (upd H dx (exd dx ((f, y) :: fs))) s' → Q () s') : wpAny (model X.prog X.w) A (setAttr (.ref a) f u) Q E s := by
  obtain ⟨nm, q, N, bs, bm, sn, sub, ab, col, dd, k0, k1, k2, k3, k5, B, nI, iI, tl, xt, ot, hC⟩ := T.cls
  have hcl : PySem.W.clsIn X.K C = some { name := nm, bases := bs, mro := .ref C :: bm, ns := N, qualname := q, hasDict := true, slotNames := sn, subclasses := sub, abstract := ab, collection := col } := by unfold PySem.W.clsIn; rw [hC] <;> rfl
  obtain ⟨t1, ho⟩ := exo_at I.hok e
  obtain ⟨mA, hns, rel⟩ := exd_at I.hok ed
  have hw := within_of rel
  obtain ⟨hp, g, d, t, os⟩ := s
  obtain ⟨oD, _, _, hoD, _, _⟩ := hns.count hw
  refine PySem.W.set_plain I.kIn (od := some oD) ⟨ho, rfl, rfl, hoD⟩ T.sa (PySem.PfX.osa_to xt I.kIn (od := some oD) ⟨ho, rfl, rfl, hoD⟩ hcl (show PySem.PfX.overT tl (.ref C :: bm) = true from ot) no ?_)
  refine PySem.PfX.own_more (I.kIn _ _ hC) ho hns hw (by rw [List.length_map]; omega) fun h' tk' k hn => ?_
  have at_ : ∃ o, h'.get? dx = some o := by
    obtain ⟨o, _, _, e', _⟩ := hn
    exact ⟨o, e'⟩
  exact h _ (I.write (t' := tk') (x := dx) (e := dx) (o := exd dx ((f, y) :: fs)) (by rw [ed]; exact True.intro) (.inl rfl) k at_ (exd_ok hn (relO_put ry rel)))
end
/-- self.f = e, self an error -/
def tXst (K : PySem.W.Frag) (f : Str) (to te : TE) : TS := fun D σ H => te σ H fun y H1 => to σ H1 fun x H2 => ∃ a C : Addr, x = .ref a ∧ XCls K C ∧ PySem.W.findIn K (.ref C) f = some none ∧
  ((H2 a = some (exo a C none) ∧ ∀ dx, H2 dx = none → dx ≠ a → D.nx σ (upd (upd H2 a (exo a C (some dx))) dx (exd dx [(f, y)]))) ∨
    ∃ (dx : Addr) (fs : List (Str × V)), H2 a = some (exo a C (some dx)) ∧ H2 dx = some (exd dx fs) ∧ fs.length ≤ 900 ∧ D.nx σ (upd H2 dx (exd dx ((f, y) :: fs))))
section
variable {X : Cx} {o e : Expr} {es : List Expr} {to te : TE} {ta : TA} {f : Str} {p p' pos : Pos}
theorem ps_xst (ho : PE X o to) (he : PE X e te) (hs : swapsWith e (some (.Attribute o f p')) pos.line X.env = pure false := by rfl) : PS X (.Assign [.Attribute o f p'] e pos) (tXst X.K f to te) := by
  refine ⟨fun pins s σ H D I h => ?_⟩
  refine plainObj_wpAny_Assign_Attribute (thn (he.run pins s σ H _ I h) fun v s1 ⟨y, H1, I1, r1, q1⟩ => thn (ho.run pins s1 σ H1 _ I1 q1) fun u s2 ⟨x, H2, I2, r2, a, C, ex, T, no, q⟩ => ?_) hs
  subst ex
  obtain rfl : u = Value.ref a := r2
  rcases q with ⟨ea, q⟩ | ⟨dx, fs, ea, ed, hl, q⟩
  · exact xst_first T I2 ea no r1 fun dx s' n ne J => ⟨σ, _, J, q dx n ne⟩
  · exact xst_more T I2 ea ed hl no r1 fun s' J => ⟨σ, _, J, q⟩
end
end Pf

namespace Pf
open PySem L2 PySem.Spec PyProof.Rows
/-- C(e, .., k = v, ..), C a class of errors: a new error, then __init__ -/
def tMakeX (C : Addr) (n m : Nat) (sp : Sp) (gV : List V → List V → List V) (E : XK) (t tk : TA) : TE := fun σ H Q => t σ H fun vs H1 => tk σ H1 fun zs H2 => vs.length = n ∧ zs.length = m ∧ n ≤ 1000 ∧ ∀ a, H2 a = none →
  sp (gV (.ref a :: vs) zs) (upd H2 a (exo a C none)) (fun v H3 => v = .non ∧ Q (.ref a) H3) E
section
variable {X : Cx} {CX : CXT} {k n : Nat} {f C : Addr} {fd : FuncData} {ps ks : List Str} {sp : Sp} {E : XK} {x : Str} {p pos : Pos} {e : Expr} {es : List Expr} {kws : List Keyword} {t tk : TA} {g : List Value → List Value → List Value} {gV : List V → List V → List V}
theorem run_makeX {pins : List (Addr × Obj)} {σ : L2.St} {H : Hp} {s : Shared} {Q : VK} {us ws : List Value} {vs zs : List V} (T : XCls X.K C) (iC : PySem.W.findIn X.K (.ref C) "__init__" = some (some (.ref f))) (tI : PySem.W.typeIn X.K (.ref f) = some (.type "function"))
    (F : FnOk X.prog X.w X.K X.mg X.base CX k f fd ps sp) (hr : Room (k + 1) X.A) (hb : KBn X.K fd ps (n + 1) ks g gV) (hx : Passes CX X E) (I : Inv X pins σ H s) (r : Vals vs us) (rz : Vals zs ws) (l1 : vs.length = n) (l2 : zs.length = ks.length) (l3 : n ≤ 1000)
    (h : ∀ a, H a = none → sp (gV (.ref a :: vs) zs) (upd H a (exo a C none)) (fun v H3 => v = .non ∧ Q (.ref a) H3) E) :
    wpAny (model X.prog X.w) X.A (call (.ref C) us (ks.zip ws)) (EP X pins σ Q) X.xe s := by
  obtain ⟨nm, q, N, bs, bm, sn, sub, ab, col, dd, k0, k1, k2, k3, k5, B, nI, iI, tl, xt, ot, hC⟩ := T.cls
  obtain ⟨hp, gs, dr, tok, os⟩ := s
  have le : hp.objs.size ≤ hp.objs.size + 1 := Nat.le_succ _
  have keep : ∀ b o, hp.get? b = some o → ((hp.push (PySem.W.kdv_tup us)).push (PySem.HandSPX.excO C hp.objs.size)).get? b = some o := fun b o e => Heap.get?_push_of_some _ (Heap.get?_push_of_some _ e)
  have new : ((hp.push (PySem.W.kdv_tup us)).push (PySem.HandSPX.excO C hp.objs.size)).get? (hp.objs.size + 1) = some (PySem.HandSPX.excO C hp.objs.size) := by heap_get
  have I2 : Inv X pins σ (upd H (hp.objs.size + 1) (exo (hp.objs.size + 1) C none)) ⟨(hp.push (PySem.W.kdv_tup us)).push (PySem.HandSPX.excO C hp.objs.size), gs, dr, tok, os⟩ :=
    I.laid (t' := tok) (a := hp.objs.size + 1) (o := exo (hp.objs.size + 1) C none) keep le (exo_ok new)
  have n1 : (Value.ref (hp.objs.size + 1) :: us).length = n + 1 := by rw [List.length_cons, ← r.length, l1]
  have sz : us.length ≤ sizeLine := by
    rw [← r.length, l1, sizeLine_eq]
    omega
  have r1 : Vals (V.ref (hp.objs.size + 1) :: vs) (Value.ref (hp.objs.size + 1) :: us) := .cons rfl r
  have hq := h (hp.objs.size + 1) (I.hok.fresh le)
  refine wpAny_call (PySem.PfX.xk_call xt.F (fun Y => PySem.PfX.overT_con Y bm ot) (I.kIn _ _ hC) sz (PySem.W.looks_findIn I.kIn iC) (fun self => PySem.W.bind_fn I.kIn self tI)
    (codeAny_mono (F.run _ X.stack _ _ ⟨Value.ref (hp.objs.size + 1) :: us, ks.zip ws⟩ (g (Value.ref (hp.objs.size + 1) :: us) ws) _ _ E (hr.make C us (ks.zip ws)) (I2.env0.make C us (ks.zip ws)) (hb.to _ (Value.ref (hp.objs.size + 1) :: us) ws I2.kIn n1 (rz.length.symm.trans l2)) (hb.rel r1 rz) hq) fun r s' hq' => ?_))
  cases r with
  | error e => exact hx pins σ _ _ e s' I2 hq'
  | ok fl =>
    cases fl with
    | ret u =>
      obtain ⟨v, H', I3, rv, ev, q3⟩ := I2.after hq'
      subst ev
      exact ⟨rv, ⟨V.ref (hp.objs.size + 1), H', I3, rfl, q3⟩⟩
    | next => exact False.elim hq'
    | brk => exact False.elim hq'
    | cont => exact False.elim hq'
/-- C(k = v, ..) or C() -/
theorem pe_makeX0 (T : XCls X.K C) (iC : PySem.W.findIn X.K (.ref C) "__init__" = some (some (.ref f))) (tI : PySem.W.typeIn X.K (.ref f) = some (.type "function")) (F : FnOk X.prog X.w X.K X.mg X.base CX k f fd ps sp) (hr : Room (k + 1) X.A) (hg : Gl X x) (hm : X.mg x = some (.ref C)) (hb : KBn X.K fd ps 1 ks g gV) (hx : Passes CX X E) (hkw : PK X kws tk)
    (hall : (backToKw pos (keywordEach kws X.env)).all (·.1.isSome) = true := by rfl) (hks : (backToKw pos (keywordEach kws X.env)).filterMap (·.1) = ks := by rfl) (hdb : (x == ("__debug__" : Str)) = false := by decide)
    (hpl : ((backTo pos (starEach [] X.env)).any (·.1) || (backToKw pos (keywordEach kws X.env)).any (·.1.isNone)) = false := by rfl) :
    PE X (.Call (.Name x p) [] kws pos) (tMakeX C 0 ks.length sp gV E tNil tk) := by
  refine ⟨fun pins s σ H Q I h => wpAny_Call_Name_kw (ld_glob I hg hm ?_ hdb)⟩
  refine PySem.W.callWith_KW0 (h₀ := X.base) I.ok.mod.kin T.kC hall ?_ hpl
  refine thn (hkw.run pos pins s σ H _ I h) fun ws s2 ⟨zs, H2, I2, rz, l1, l2, l3, q2⟩ => ⟨I2.kIn, ?_⟩
  rw [hks]
  exact run_makeX (us := []) (vs := []) T iC tI F hr hb hx I2 .nil rz rfl l2 l3 q2
/-- C(e, .., k = v, ..) -/
theorem pe_makeX (T : XCls X.K C) (iC : PySem.W.findIn X.K (.ref C) "__init__" = some (some (.ref f))) (tI : PySem.W.typeIn X.K (.ref f) = some (.type "function")) (F : FnOk X.prog X.w X.K X.mg X.base CX k f fd ps sp) (hr : Room (k + 1) X.A) (hg : Gl X x) (hm : X.mg x = some (.ref C)) (hb : KBn X.K fd ps (n + 1) ks g gV) (hx : Passes CX X E) (ha : PA X (e :: es) t) (hkw : PK X kws tk)
    (hall : (backToKw pos (keywordEach kws X.env)).all (·.1.isSome) = true := by rfl) (hks : (backToKw pos (keywordEach kws X.env)).filterMap (·.1) = ks := by rfl) (hdb : (x == ("__debug__" : Str)) = false := by decide)
    (he : starEach (e :: es) X.env = (false, eval e X.env) :: starEach es X.env := by rfl) (hpl : ((backTo pos (starEach (e :: es) X.env)).any (·.1) || (backToKw pos (keywordEach kws X.env)).any (·.1.isNone)) = false := by rfl) :
    PE X (.Call (.Name x p) (e :: es) kws pos) (tMakeX C n ks.length sp gV E t tk) := by
  refine ⟨fun pins s σ H Q I h => wpAny_Call_Name_kw (ld_glob I hg hm ?_ hdb)⟩
  refine PySem.W.callWith_KW (h₀ := X.base) I.ok.mod.kin T.kC hall (thn (ha.run pos pins s σ H _ I h) fun us s1 ⟨vs, H1, I1, r, q⟩ => ?_) hpl he
  refine thn (hkw.run pos pins s1 σ H1 _ I1 q) fun ws s2 ⟨zs, H2, I2, rz, l1, l2, l3, q2⟩ => ⟨I2.kIn, ?_⟩
  rw [hks]
  exact run_makeX T iC tI F hr hb hx I2 r rz l1 l2 l3 q2
end
/-! ### reading a field, asking for the class -/
/-- e.f, e an error that is a value -/
def tXfl (K : PySem.W.Frag) (f : Str) (te : TE) : TE := fun σ H Q => te σ H fun x H1 => ∃ (a C dx : Addr) (fs : List (Str × V)) (v : V), x = .ref a ∧ XCls K C ∧ PySem.W.findIn K (.ref C) f = some none ∧ H1 a = some (exo a C (some dx)) ∧ H1 dx = some (exd dx fs) ∧ fs.lookup f = some v ∧ Q v H1
theorem pe_xfl {X : Cx} {e : Expr} {te : TE} {pos : Pos} {n : Str} (he : PE X e te) (hb : attributeBase e n X.env (eval e X.env) = eval e X.env := by rfl) : PE X (.Attribute e n pos) (tXfl X.K n te) := by
  refine ⟨fun pins s σ H Q I h => ?_⟩
  refine attr_of hb (thn (he.run pins s σ H _ I h) fun u s1 hh => ?_)
  obtain ⟨x, H1, I1, rx, a, C, dx, fs, v, ex, T, no, ea, ed, l, q⟩ := hh
  subst ex
  obtain rfl : u = Value.ref a := rx
  obtain ⟨t1, ho⟩ := exo_at I1.hok ea
  obtain ⟨mA, hns, hr⟩ := exd_at I1.hok ed
  obtain ⟨od, hod, hl⟩ := lookIn_ns hns
  obtain ⟨u, hu, ru⟩ := RelO.some_of (v := v) (o := mA n) (by rw [← l]; exact hr n)
  have J : PySem.W.InstAt s1.heap a _ C (some od) := ⟨ho, rfl, rfl, hod⟩
  exact PySem.HandSPX.exc_get I1.kIn J T.is.hg T.is.hk T.is.hs (PySem.W.findObj_own T.is.hd no rfl (by rw [hl, hu])) (handed_of ru) ⟨v, H1, I1.tok _, ru, q⟩
/-- isinstance(e, c), e an error that is a value -/
def rIsX (K : PySem.W.Frag) : List V → Hp → VK → Prop := fun xs H Q => ∃ (a C dx : Addr) (fs : List (Str × V)) (c : V) (cv : Value) (b : Bool), xs = [.ref a, c] ∧ XCls K C ∧ H a = some (exo a C (some dx)) ∧ H dx = some (exd dx fs) ∧ (∀ u, RelV c u → u = cv) ∧ PySem.W.kitOne K (.ref C) cv = some b ∧ Q (.bl b) H
theorem call_isX {X : Cx} : CallR X (.builtin "isinstance") (rIsX X.K) := by
  intro pins s σ H xs us Q I r h
  obtain ⟨a, C, dx, fs, c, cv, b, rfl, T, ea, ed, hcv, e, q⟩ := h
  cases r with
  | cons rx rr =>
    cases rr with
    | cons rt rr =>
      cases rr
      cases rx
      have ec := hcv _ rt
      subst ec
      obtain ⟨t1, ho⟩ := exo_at I.hok ea
      obtain ⟨mA, hns, hr⟩ := exd_at I.hok ed
      obtain ⟨od, hod, hl⟩ := lookIn_ns hns
      obtain ⟨cdD, hcD, _⟩ := PySem.W.any_some T.is.hd
      have J : PySem.W.InstAt s.heap a _ C (some od) := ⟨ho, rfl, rfl, hod⟩
      exact PySem.W.kia_one (PySem.W.kitx_exc (by rw [hcD]; rfl) T.is.hg T.is.hk T.is.hs T.is.ha T.is.hn T.is.ht T.is.hm) I.kIn J e (fun z => nomatch z) fun tk => ⟨.bl b, H, I.kept (t' := tk) fun _ _ z => z, rfl, q⟩
end Pf

namespace Pf
open PySem L2
/-! ### a class of errors, asked by the kernel -/
def tailVE : List Value := [.type "ValueError", .type "Exception", .type "BaseException", .type "object"]
def tailLE : List Value := [.type "LookupError", .type "Exception", .type "BaseException", .type "object"]
def tailIE : List Value := [.type "IndexError", .type "LookupError", .type "Exception", .type "BaseException", .type "object"]
def clsB (K : PySem.W.Frag) (C : Addr) : Bool := match K.lookup C with
  | some ⟨.type t, dd, .cls ⟨nm, bs, .ref c :: bm, N, q, hd, sn, sub, ab, col, del⟩, ⟨[k0, k1, k2, k3, some (.builtin nI), k5]⟩⟩ =>
    ((t == "type" && c == C) && (hd && !del)) && ((nI == "ValueError.__new__" && PfX.overT tailVE bm) || ((nI == "LookupError.__new__" && PfX.overT tailLE bm) || (nI == "IndexError.__new__" && PfX.overT tailIE bm)))
  | _ => false
theorem clsB_ok {K : PySem.W.Frag} {C : Addr} (h : clsB K C = true) : ∃ nm q N bs bm sn sub ab col dd k0 k1 k2 k3 k5 B nI iI tl, PfX.XT B nI iI tl ∧ PfX.overT tl bm = true ∧ K.lookup C = some (excClassObj nm q C N bs bm true sn sub ab col dd k0 k1 k2 k3 k5 nI) := by
  unfold clsB at h
  split at h
  · rename_i t dd nm bs c bm N q hd sn sub ab col del k0 k1 k2 k3 nI k5 e
    simp only [Bool.and_eq_true, Bool.or_eq_true, beq_iff_eq, Bool.not_eq_true'] at h
    obtain ⟨⟨⟨e1, e2⟩, e3, e4⟩, h⟩ := h
    subst e1 e2 e3 e4
    rcases h with ⟨e5, h⟩ | ⟨e5, h⟩ | ⟨e5, h⟩ <;> subst e5
    · exact ⟨nm, q, N, bs, bm, sn, sub, ab, col, dd, k0, k1, k2, k3, k5, _, _, _, _, PfX.xt_VE, h, e⟩
    · exact ⟨nm, q, N, bs, bm, sn, sub, ab, col, dd, k0, k1, k2, k3, k5, _, _, _, _, PfX.xt_LE, h, e⟩
    · exact ⟨nm, q, N, bs, bm, sn, sub, ab, col, dd, k0, k1, k2, k3, k5, _, _, _, _, PfX.xt_IE, h, e⟩
  · cases h
/-- all that is asked of a class of errors whose __init__ is fI, and whose instances have the fields fs of their own -/
def xcB (K : PySem.W.Frag) (C fI : Addr) (fs : List Str) : Bool := clsB K C && (decide (PySem.W.findIn K (.ref C) "__setattr__" = some (some (.builtin "object.__setattr__"))) && (PySem.W.keepIn K (.ref C) && (decide (PySem.W.findIn K (.ref C) "__getattribute__" = some (some (.builtin "BaseException.__getattribute__"))) &&
  (decide (PySem.W.findIn K (.ref C) "__getattr__" = some none) && (decide (PySem.W.subIn K (.ref C) (.type "BaseException") = some true) && (PySem.W.hasDictIn K C && (decide (PySem.W.findIn K (.ref C) "__class__" = some (some (.builtin "object.__class__"))) &&
  (decide (PySem.W.specialIn K (.builtin "object.__class__") "__get__" = some (some (.builtin "getset_descriptor.__get__"))) && (decide (PySem.W.takesIn K (.builtin "object.__class__") = some true) && (decide (PySem.W.mroIn K C (.type "object") = some true) &&
  (decide (PySem.W.typeIn K (.ref fI) = some (.type "function")) && (decide (PySem.W.findIn K (.ref C) "__init__" = some (some (.ref fI))) && fs.all fun f => decide (PySem.W.findIn K (.ref C) f = some none)))))))))))))
structure XAll (K : PySem.W.Frag) (C fI : Addr) (fs : List Str) : Prop where
  x : XCls K C
  tI : PySem.W.typeIn K (.ref fI) = some (.type "function")
  iC : PySem.W.findIn K (.ref C) "__init__" = some (some (.ref fI))
  no : ∀ f ∈ fs, PySem.W.findIn K (.ref C) f = some none
theorem xcB_ok {K : PySem.W.Frag} {C fI : Addr} {fs : List Str} (h : xcB K C fI fs = true) : XAll K C fI fs := by
  unfold xcB at h
  simp only [Bool.and_eq_true, decide_eq_true_eq, List.all_eq_true] at h
  obtain ⟨h1, h2, h3, h4, h5, h6, h7, h8, h9, h10, h11, h12, h13, h14⟩ := h
  exact ⟨⟨clsB_ok h1, h2, h3, ⟨h4, h5, h6, h7, h8, h9, h10, h11⟩⟩, h12, h13, h14⟩
/-! the classes beneath one another -/
def kitIs (K : PySem.W.Frag) (c : Addr) (t : Value) (b : Bool) : Bool := decide (PySem.W.kitOne K (.ref c) t = some b)
theorem kitIs_ok {K : PySem.W.Frag} {c : Addr} {t : Value} {b : Bool} (h : kitIs K c t b = true) : PySem.W.kitOne K (.ref c) t = some b := of_decide_eq_true h
def kitX (K : PySem.W.Frag) (cs : List Addr) (pe mi nl : Addr) : Bool := (cs.zipIdx.all fun p => cs.zipIdx.all fun q => kitIs K p.1 (.ref q.1) (p.2 == q.2)) &&
  (cs.zipIdx.all fun p => kitIs K p.1 (.type "ValueError") (decide (p.2 < 22)) && (kitIs K p.1 (.ref pe) (decide (p.2 < 22)) && (kitIs K p.1 (.type "LookupError") (decide (21 < p.2)) && (kitIs K p.1 (.ref mi) (decide (21 < p.2) && decide (p.2 < 24)) &&
    (kitIs K p.1 (.type "IndexError") (p.2 == 24) && (kitIs K p.1 (.ref nl) (p.2 == 24) && kitIs K p.1 (.type "KeyError") false))))))
theorem kitX_at {K : PySem.W.Frag} {cs : List Addr} {pe mi nl : Addr} (h : kitX K cs pe mi nl = true) {c c' : Addr} {i j : Nat} (hi : cs[i]? = some c) (hj : cs[j]? = some c') : PySem.W.kitOne K (.ref c) (.ref c') = some (i == j) := by
  unfold kitX at h
  have h1 := (Bool.and_eq_true_iff.mp h).1
  have h2 := List.all_eq_true.mp h1 (c, i) (List.mem_zipIdx_iff_getElem?.mpr hi)
  exact kitIs_ok (List.all_eq_true.mp h2 (c', j) (List.mem_zipIdx_iff_getElem?.mpr hj))
structure KindsAt (K : PySem.W.Frag) (pe mi nl c : Addr) (i : Nat) : Prop where
  k1 : PySem.W.kitOne K (.ref c) (.type "ValueError") = some (decide (i < 22))
  k2 : PySem.W.kitOne K (.ref c) (.ref pe) = some (decide (i < 22))
  k3 : PySem.W.kitOne K (.ref c) (.type "LookupError") = some (decide (21 < i))
  k4 : PySem.W.kitOne K (.ref c) (.ref mi) = some (decide (21 < i) && decide (i < 24))
  k5 : PySem.W.kitOne K (.ref c) (.type "IndexError") = some (i == 24)
  k6 : PySem.W.kitOne K (.ref c) (.ref nl) = some (i == 24)
  k7 : PySem.W.kitOne K (.ref c) (.type "KeyError") = some false
theorem kitX_kinds {K : PySem.W.Frag} {cs : List Addr} {pe mi nl : Addr} (h : kitX K cs pe mi nl = true) {c : Addr} {i : Nat} (hi : cs[i]? = some c) : KindsAt K pe mi nl c i := by
  unfold kitX at h
  have h1 := (Bool.and_eq_true_iff.mp h).2
  have h2 := List.all_eq_true.mp h1 (c, i) (List.mem_zipIdx_iff_getElem?.mpr hi)
  simp only [Bool.and_eq_true] at h2
  obtain ⟨a, b, c, d, e, f, g⟩ := h2
  exact ⟨kitIs_ok a, kitIs_ok b, kitIs_ok c, kitIs_ok d, kitIs_ok e, kitIs_ok f, kitIs_ok g⟩
/-! ### errors on data -/
section
variable {F : Fm} {δ : List SD} {te : TE} {t tk : TA} {P : D → Prop} {f : Str} {C : Addr} {fs : List (Str × D)} {y : D}
theorem ev_xfl (h : Ev F te δ fun d => ∃ C fs v, d = .exc C fs ∧ XCls F.K C ∧ PySem.W.findIn F.K (.ref C) f = some none ∧ fs.lookup f = some v ∧ P v) : Ev F (tXfl F.K f te) δ P := fun M σ H Q c q =>
  h M σ H _ c fun v x H1 p1 c1 e1 r1 => by
    obtain ⟨C, fs, d, rfl, T, no, l, p⟩ := p1
    cases r1 with
    | @exc a _ dx vs _ h1 h2 rr =>
      obtain ⟨u, g1, g2⟩ := rr.get l
      exact ⟨a, C, dx, vs, u, rfl, T, no, (hd_of h1).2, (hd_of h2).2, g1, q u d H1 p c1 e1 g2⟩
theorem cd_isX {cv : Value} {b : Bool} (T : XCls F.K C) (hy : ∀ (H : Hp) (w : V), Rep F.K H w y → ∀ u, RelV w u → u = cv) (hk : PySem.W.kitOne F.K (.ref C) cv = some b) (p : P (.bl b)) : CallD F.K (rIsX F.K) [.exc C fs, y] P := fun M H vs Q al r q => by
  cases r with
  | cons r1 r2 =>
    cases r2 with
    | cons r2 r3 =>
      cases r3
      cases r1 with
      | @exc a _ dx us _ h1 h2 rr => exact ⟨a, C, dx, us, _, cv, b, rfl, T, (hd_of h1).2, (hd_of h2).2, hy _ _ r2, hk, q _ _ H p (Same.refl H) (.bl b)⟩
theorem isx_adr {C' : Addr} : ∀ (H : Hp) (w : V), Rep F.K H w (.adr C') → ∀ u, RelV w u → u = .ref C' := fun H w r u e => by
  cases r
  exact e
theorem isx_ty {n : String} : ∀ (H : Hp) (w : V), Rep F.K H w (.ty n) → ∀ u, RelV w u → u = .type n := fun H w r u e => by
  cases r
  exact e
/-- the promise of an __init__ of errors -/
def spX (K : PySem.W.Frag) (C : Addr) (Pre : List D → Prop) (Post : List D → List (Str × D) → Prop) : Sp := fun vs H Q _ => ∃ (M : Addr → Bool) (H1 : Hp) (a : Addr) (ws : List V) (ds : List D), vs = .ref a :: ws ∧ H1 a = none ∧ H = upd H1 a (exo a C none) ∧ Al M H1 ∧ RepL K (hd M H1) ws ds ∧ Pre ds ∧
  ∀ H2 gs, Post ds gs → Same H1 H2 → Rep K (hd M H2) (.ref a) (.exc C gs) → Q .non H2
theorem spX_len {K : PySem.W.Frag} {C : Addr} {Pre : List D → Prop} {Post : List D → List (Str × D) → Prop} {n : Nat} (h : ∀ ds, Pre ds → ds.length = n) {vs : List V} {H : Hp} {Q : VK} {E : XK} (s : spX K C Pre Post vs H Q E) : vs.length = n + 1 := by
  obtain ⟨M, H1, a, ws, ds, rfl, _, _, _, r, pre, _⟩ := s
  rw [List.length_cons, r.length, h ds pre]
/-- C(e, .., k = v, ..) -/
theorem ev_makeX {n m : Nat} {gV : List V → List V → List V} {gD : List D → List D → List D} {E : XK} {Pre : List D → Prop} {Post : List D → List (Str × D) → Prop}
    (hg : ∀ (H : Hp) (x : V) (vs zs : List V) (ds es : List D), RepL F.K H vs ds → RepL F.K H zs es → ds.length = n → es.length = m → ∃ ws, gV (x :: vs) zs = x :: ws ∧ RepL F.K H ws (gD ds es))
    (h : EvA F t δ fun ds => EvA F tk δ fun es => ds.length = n ∧ es.length = m ∧ n ≤ 1000 ∧ Pre (gD ds es) ∧ ∀ gs, Post (gD ds es) gs → P (.exc C gs)) : Ev F (tMakeX C n m (spX F.K C Pre Post) gV E t tk) δ P := fun M σ H Q c q =>
  h M σ H _ c fun vs ds H1 p1 c1 e1 r1 => p1 M σ H1 _ c1 fun zs es H2 p2 c2 e2 r2 => by
    obtain ⟨l1, l2, l3, pre, po⟩ := p2
    have r1' := r1.mono (hd_step c1 e2)
    refine ⟨by rw [r1.length, l1], by rw [r2.length, l2], l3, fun a ha => ?_⟩
    obtain ⟨ws, ew, rw'⟩ := hg _ (.ref a) vs zs ds es r1' r2 l1 l2
    rw [ew]
    exact ⟨M, H2, a, ws, gD ds es, rfl, ha, rfl, c2.al, rw', pre, fun H3 gs pg s r => ⟨rfl, q _ _ H3 (po gs pg) (c2.same s) ((e1.trans e2).trans (StepB.of s)) r⟩⟩
end
def postX1 (cd f : Str) : List D → List (Str × D) → Prop := fun ds gs => ∃ d, ds = [d] ∧ gs = [(f, d), (("code" : Str), D.str cd)]
def postX0 (cd : Str) : List D → List (Str × D) → Prop := fun _ gs => gs = [(("code" : Str), D.str cd)]
/-! ### bodies: self.code = text, self.f = copied(value) -/
section
variable {K : PySem.W.Frag} {C : Addr} {N : List Str} {vs : List V} {H : Hp} {Q : VK} {E E' : XK} {cd f : Str} {PreC : List D → Prop}
theorem same_upd2 {H1 : Hp} {a dx : Addr} {o u : HO} (ha : H1 a = none) (hd : H1 dx = none) : Same H1 (upd (upd H1 a o) dx u) := fun b w e => by
  rw [upd_ne (ne_of_none e hd), upd_ne (ne_of_none e ha)]
  exact e
theorem upd_over {H : Hp} {a : Addr} {o u : HO} : upd (upd H a o) a u = upd H a u := by
  funext b
  by_cases h : b = a
  · subst h
    rw [upd_same, upd_same]
  · rw [upd_ne h, upd_ne h, upd_ne h]
theorem hd_al {M : Addr → Bool} {H1 H2 : Hp} {a : Addr} {o : HO} (al : Al M H1) (ha : H1 a = none) (h : H2 a = some o) : hd M H2 a = some o := hd_at (al_of_none al ha) h
/-- self.code = text -/
theorem initX0 (T : XCls K C) (n1 : PySem.W.findIn K (.ref C) "code" = some none) (hs : spX K C (fun ds => ds = []) (postX0 cd) vs H Q E) :
    tXst K "code" (tVar 0) (tC (.str cd)) { nx := fun _ H' => Q .non H', rt := Q } (L2.start N vs) H := by
  obtain ⟨M, H1, a, ws, ds, rfl, ha, rfl, al, r, pre, q⟩ := hs
  refine ⟨.ref a, rfl, a, C, rfl, T, n1, .inl ⟨upd_same, fun dx hx ne => ?_⟩⟩
  have hx1 : H1 dx = none := by
    rw [upd_ne ne] at hx
    exact hx
  have s : Same H1 (upd (upd (upd H1 a (exo a C none)) a (exo a C (some dx))) dx (exd dx [(("code" : Str), V.str cd)])) := by
    rw [upd_over]
    exact same_upd2 ha hx1
  refine q _ [(("code" : Str), D.str cd)] rfl s (.exc (dx := dx) (hd_al al ha (by rw [upd_ne ne.symm, upd_same])) (hd_al al hx1 upd_same) (.cons (.str cd) .nil))
/-- self.code = text, self.f = copied(value) -/
theorem initX1 (T : XCls K C) (n1 : PySem.W.findIn K (.ref C) "code" = some none) (n2 : PySem.W.findIn K (.ref C) f = some none) (hs : spX K C PreC (postX1 cd f) vs H Q E) (hl : ∀ ds, PreC ds → ds.length = 1) :
    tSeq (tXst K "code" (tVar 0) (tC (.str cd))) (tXst K f (tVar 0) (tCall (spD K PreC fun ds d => ds = [d]) [] E' (tCons (tVar 1) tNil))) { nx := fun _ H' => Q .non H', rt := Q } (L2.start N vs) H := by
  obtain ⟨M, H1, a, ws, ds, rfl, ha, rfl, al, r, pre, q⟩ := hs
  have l1 := r.length.trans (hl ds pre)
  match ws, l1 with
  | [w], _ =>
  refine ⟨.ref a, rfl, a, C, rfl, T, n1, .inl ⟨upd_same, fun dx hx ne => ?_⟩⟩
  have hx1 : H1 dx = none := by
    rw [upd_ne ne] at hx
    exact hx
  rw [upd_over]
  have s : Same H1 (upd (upd H1 a (exo a C (some dx))) dx (exd dx [(("code" : Str), V.str cd)])) := same_upd2 ha hx1
  refine ⟨w, rfl, ?_⟩
  let M2 := hid (hid M a) dx
  have h1 : ∀ b o, hd M H1 b = some o → hd M2 (upd (upd H1 a (exo a C (some dx))) dx (exd dx [(("code" : Str), V.str cd)])) b = some o := fun b o h => by
    obtain ⟨m, h⟩ := hd_of h
    have nb : b ≠ dx := ne_of_none h hx1
    have na : b ≠ a := ne_of_none h ha
    exact hd_at (by show hid (hid M a) dx b = false; rw [hid_ne nb, hid_ne na]; exact m) (s _ _ h)
  have al2 : Al M2 (upd (upd H1 a (exo a C (some dx))) dx (exd dx [(("code" : Str), V.str cd)])) := fun b m => by
    by_cases e1 : b = dx
    · subst e1
      exact ⟨_, upd_same⟩
    by_cases e2 : b = a
    · subst e2
      exact ⟨_, by rw [upd_ne e1, upd_same]⟩
    have m' : hid (hid M a) dx b = true := m
    rw [hid_ne e1, hid_ne e2] at m'
    obtain ⟨o, h⟩ := al b m'
    exact ⟨o, s _ _ h⟩
  refine ⟨M2, ds, al2, ?_, pre, fun v d H3 pd s3 r3 => ?_⟩
  · rw [List.append_nil]
    exact r.mono h1
  have ea : H3 a = some (exo a C (some dx)) := s3 _ _ (by rw [upd_ne ne.symm, upd_same])
  have ed : H3 dx = some (exd dx [(("code" : Str), V.str cd)]) := s3 _ _ upd_same
  refine ⟨.ref a, rfl, a, C, rfl, T, n2, .inr ⟨dx, _, ea, ed, by simp, ?_⟩⟩
  have s4 : Same H1 (upd H3 dx (exd dx [(f, v), (("code" : Str), V.str cd)])) := fun b o h => by
    rw [upd_ne (ne_of_none h hx1)]
    exact s3 _ _ (s _ _ h)
  have r4 : Rep K (hd M (upd H3 dx (exd dx [(f, v), (("code" : Str), V.str cd)]))) v d := r3.mono fun b o h => by
    obtain ⟨m, h⟩ := hd_of h
    have m' : hid (hid M a) dx b = false := m
    have nb : b ≠ dx := fun e => by
      rw [e, hid_same] at m'
      cases m'
    have na : b ≠ a := fun e => by
      rw [hid_ne nb, e, hid_same] at m'
      cases m'
    rw [hid_ne nb, hid_ne na] at m'
    exact hd_at m' (by rw [upd_ne nb]; exact h)
  exact q _ _ ⟨d, pd, rfl⟩ s4 (.exc (dx := dx) (hd_al al ha (by rw [upd_ne ne.symm]; exact ea)) (hd_al al hx1 upd_same) (.cons r4 (.cons (.str cd) .nil)))
end
end Pf

namespace Pf
open PySem L2 RZ
def top (i : Nat) : Stmt := PySem.Challenge.pw_partfirsts_k70_errors_and_their_classes.main.body.getD i (.Pass ⟨0, 0, 0, 0⟩)
abbrev s_copied : Stmt := top 1
abbrev s_InvalidRow_init : Stmt := inClass (top 4) 0
abbrev s_InvalidPart_init : Stmt := inClass (top 5) 0
abbrev s_InvalidMark_init : Stmt := inClass (top 6) 0
abbrev s_InvalidOrder_init : Stmt := inClass (top 7) 0
abbrev s_InvalidState_init : Stmt := inClass (top 8) 0
abbrev s_InvalidAsk_init : Stmt := inClass (top 9) 0
abbrev s_InvalidNumber_init : Stmt := inClass (top 10) 0
abbrev s_InvalidStanding_init : Stmt := inClass (top 11) 0
abbrev s_InvalidKind_init : Stmt := inClass (top 12) 0
abbrev s_InvalidGroup_init : Stmt := inClass (top 13) 0
abbrev s_InvalidWay_init : Stmt := inClass (top 14) 0
abbrev s_InvalidName_init : Stmt := inClass (top 15) 0
abbrev s_InvalidText_init : Stmt := inClass (top 16) 0
abbrev s_InvalidCommand_init : Stmt := inClass (top 17) 0
abbrev s_InvalidLimit_init : Stmt := inClass (top 18) 0
abbrev s_DuplicateNumber_init : Stmt := inClass (top 19) 0
abbrev s_DuplicateName_init : Stmt := inClass (top 20) 0
abbrev s_TooMany_init : Stmt := inClass (top 21) 0
abbrev s_PartsDiffer_init : Stmt := inClass (top 22) 0
abbrev s_WrongReader_init : Stmt := inClass (top 23) 0
abbrev s_Ended_init : Stmt := inClass (top 24) 0
abbrev s_Full_init : Stmt := inClass (top 25) 0
abbrev s_UnknownName_init : Stmt := inClass (top 26) 0
abbrev s_UnknownNumber_init : Stmt := inClass (top 27) 0
abbrev s_NothingLeft_init : Stmt := inClass (top 28) 0
abbrev s_open : Stmt := top 30
abbrev s_draw : Stmt := top 31
abbrev s_of : Stmt := top 32
abbrev s_like : Stmt := top 33
abbrev s_kinds_of : Stmt := top 34
abbrev s_all_kinds : Stmt := top 35
abbrev s_law : Stmt := top 36
abbrev N_copied : List Str := ["value", "item"]
theorem sc_copied : FnScope N_copied ["value"] (defScope s_copied) := ⟨rfl, rfl, rfl, by decide +kernel, rfl, by decide +kernel, by decide +kernel⟩
abbrev N_InvalidRow_init : List Str := ["self", "at"]
theorem sc_InvalidRow_init : FnScope N_InvalidRow_init ["self", "at"] (defScope s_InvalidRow_init) := ⟨rfl, rfl, rfl, by decide +kernel, rfl, by decide +kernel, by decide +kernel⟩
abbrev N_InvalidPart_init : List Str := ["self", "given"]
theorem sc_InvalidPart_init : FnScope N_InvalidPart_init ["self", "given"] (defScope s_InvalidPart_init) := ⟨rfl, rfl, rfl, by decide +kernel, rfl, by decide +kernel, by decide +kernel⟩
abbrev N_InvalidMark_init : List Str := ["self", "given"]
theorem sc_InvalidMark_init : FnScope N_InvalidMark_init ["self", "given"] (defScope s_InvalidMark_init) := ⟨rfl, rfl, rfl, by decide +kernel, rfl, by decide +kernel, by decide +kernel⟩
abbrev N_InvalidOrder_init : List Str := ["self", "given"]
theorem sc_InvalidOrder_init : FnScope N_InvalidOrder_init ["self", "given"] (defScope s_InvalidOrder_init) := ⟨rfl, rfl, rfl, by decide +kernel, rfl, by decide +kernel, by decide +kernel⟩
abbrev N_InvalidState_init : List Str := ["self", "at"]
theorem sc_InvalidState_init : FnScope N_InvalidState_init ["self", "at"] (defScope s_InvalidState_init) := ⟨rfl, rfl, rfl, by decide +kernel, rfl, by decide +kernel, by decide +kernel⟩
abbrev N_InvalidAsk_init : List Str := ["self", "given"]
theorem sc_InvalidAsk_init : FnScope N_InvalidAsk_init ["self", "given"] (defScope s_InvalidAsk_init) := ⟨rfl, rfl, rfl, by decide +kernel, rfl, by decide +kernel, by decide +kernel⟩
abbrev N_InvalidNumber_init : List Str := ["self", "given"]
theorem sc_InvalidNumber_init : FnScope N_InvalidNumber_init ["self", "given"] (defScope s_InvalidNumber_init) := ⟨rfl, rfl, rfl, by decide +kernel, rfl, by decide +kernel, by decide +kernel⟩
abbrev N_InvalidStanding_init : List Str := ["self", "given"]
theorem sc_InvalidStanding_init : FnScope N_InvalidStanding_init ["self", "given"] (defScope s_InvalidStanding_init) := ⟨rfl, rfl, rfl, by decide +kernel, rfl, by decide +kernel, by decide +kernel⟩
abbrev N_InvalidKind_init : List Str := ["self", "given"]
theorem sc_InvalidKind_init : FnScope N_InvalidKind_init ["self", "given"] (defScope s_InvalidKind_init) := ⟨rfl, rfl, rfl, by decide +kernel, rfl, by decide +kernel, by decide +kernel⟩
abbrev N_InvalidGroup_init : List Str := ["self", "at"]
theorem sc_InvalidGroup_init : FnScope N_InvalidGroup_init ["self", "at"] (defScope s_InvalidGroup_init) := ⟨rfl, rfl, rfl, by decide +kernel, rfl, by decide +kernel, by decide +kernel⟩
abbrev N_InvalidWay_init : List Str := ["self", "given"]
theorem sc_InvalidWay_init : FnScope N_InvalidWay_init ["self", "given"] (defScope s_InvalidWay_init) := ⟨rfl, rfl, rfl, by decide +kernel, rfl, by decide +kernel, by decide +kernel⟩
abbrev N_InvalidName_init : List Str := ["self", "given"]
theorem sc_InvalidName_init : FnScope N_InvalidName_init ["self", "given"] (defScope s_InvalidName_init) := ⟨rfl, rfl, rfl, by decide +kernel, rfl, by decide +kernel, by decide +kernel⟩
abbrev N_InvalidText_init : List Str := ["self", "line"]
theorem sc_InvalidText_init : FnScope N_InvalidText_init ["self", "line"] (defScope s_InvalidText_init) := ⟨rfl, rfl, rfl, by decide +kernel, rfl, by decide +kernel, by decide +kernel⟩
abbrev N_InvalidCommand_init : List Str := ["self", "at"]
theorem sc_InvalidCommand_init : FnScope N_InvalidCommand_init ["self", "at"] (defScope s_InvalidCommand_init) := ⟨rfl, rfl, rfl, by decide +kernel, rfl, by decide +kernel, by decide +kernel⟩
abbrev N_InvalidLimit_init : List Str := ["self", "given"]
theorem sc_InvalidLimit_init : FnScope N_InvalidLimit_init ["self", "given"] (defScope s_InvalidLimit_init) := ⟨rfl, rfl, rfl, by decide +kernel, rfl, by decide +kernel, by decide +kernel⟩
abbrev N_DuplicateNumber_init : List Str := ["self", "number"]
theorem sc_DuplicateNumber_init : FnScope N_DuplicateNumber_init ["self", "number"] (defScope s_DuplicateNumber_init) := ⟨rfl, rfl, rfl, by decide +kernel, rfl, by decide +kernel, by decide +kernel⟩
abbrev N_DuplicateName_init : List Str := ["self", "name"]
theorem sc_DuplicateName_init : FnScope N_DuplicateName_init ["self", "name"] (defScope s_DuplicateName_init) := ⟨rfl, rfl, rfl, by decide +kernel, rfl, by decide +kernel, by decide +kernel⟩
abbrev N_TooMany_init : List Str := ["self", "most"]
theorem sc_TooMany_init : FnScope N_TooMany_init ["self", "most"] (defScope s_TooMany_init) := ⟨rfl, rfl, rfl, by decide +kernel, rfl, by decide +kernel, by decide +kernel⟩
abbrev N_PartsDiffer_init : List Str := ["self"]
theorem sc_PartsDiffer_init : FnScope N_PartsDiffer_init ["self"] (defScope s_PartsDiffer_init) := ⟨rfl, rfl, rfl, by decide +kernel, rfl, by decide +kernel, by decide +kernel⟩
abbrev N_WrongReader_init : List Str := ["self", "first"]
theorem sc_WrongReader_init : FnScope N_WrongReader_init ["self", "first"] (defScope s_WrongReader_init) := ⟨rfl, rfl, rfl, by decide +kernel, rfl, by decide +kernel, by decide +kernel⟩
abbrev N_Ended_init : List Str := ["self"]
theorem sc_Ended_init : FnScope N_Ended_init ["self"] (defScope s_Ended_init) := ⟨rfl, rfl, rfl, by decide +kernel, rfl, by decide +kernel, by decide +kernel⟩
abbrev N_Full_init : List Str := ["self", "limit"]
theorem sc_Full_init : FnScope N_Full_init ["self", "limit"] (defScope s_Full_init) := ⟨rfl, rfl, rfl, by decide +kernel, rfl, by decide +kernel, by decide +kernel⟩
abbrev N_UnknownName_init : List Str := ["self", "name"]
theorem sc_UnknownName_init : FnScope N_UnknownName_init ["self", "name"] (defScope s_UnknownName_init) := ⟨rfl, rfl, rfl, by decide +kernel, rfl, by decide +kernel, by decide +kernel⟩
abbrev N_UnknownNumber_init : List Str := ["self", "number"]
theorem sc_UnknownNumber_init : FnScope N_UnknownNumber_init ["self", "number"] (defScope s_UnknownNumber_init) := ⟨rfl, rfl, rfl, by decide +kernel, rfl, by decide +kernel, by decide +kernel⟩
abbrev N_NothingLeft_init : List Str := ["self"]
theorem sc_NothingLeft_init : FnScope N_NothingLeft_init ["self"] (defScope s_NothingLeft_init) := ⟨rfl, rfl, rfl, by decide +kernel, rfl, by decide +kernel, by decide +kernel⟩
abbrev N_open : List Str := ["_law_script"]
theorem sc_open : FnScope N_open ["_law_script"] (defScope s_open) := ⟨rfl, rfl, rfl, by decide +kernel, rfl, by decide +kernel, by decide +kernel⟩
abbrev N_draw : List Str := ["_law_bag", "_law_many", "_law_cell", "_law_digit", "_law_seed"]
theorem sc_draw : FnScope N_draw ["_law_bag", "_law_many"] (defScope s_draw) := ⟨rfl, rfl, rfl, by decide +kernel, rfl, by decide +kernel, by decide +kernel⟩
abbrev N_of : List Str := ["_law_bag", "_law_things"]
theorem sc_of : FnScope N_of ["_law_bag", "_law_things"] (defScope s_of) := ⟨rfl, rfl, rfl, by decide +kernel, rfl, by decide +kernel, by decide +kernel⟩
abbrev N_like : List Str := ["_law_found", "_law_due", "_law_one", "_law_other"]
theorem sc_like : FnScope N_like ["_law_found", "_law_due"] (defScope s_like) := ⟨rfl, rfl, rfl, by decide +kernel, rfl, by decide +kernel, by decide +kernel⟩
abbrev N_kinds_of : List Str := ["_law_e"]
theorem sc_kinds_of : FnScope N_kinds_of ["_law_e"] (defScope s_kinds_of) := ⟨rfl, rfl, rfl, by decide +kernel, rfl, by decide +kernel, by decide +kernel⟩
abbrev N_all_kinds : List Str := ["_law_e", "_law_found"]
theorem sc_all_kinds : FnScope N_all_kinds ["_law_e"] (defScope s_all_kinds) := ⟨rfl, rfl, rfl, by decide +kernel, rfl, by decide +kernel, by decide +kernel⟩
abbrev N_law : List Str := ["_law_script", "_law_bag", "_law_turn", "_law_x", "_law_ats", "_law_givens", "_law_others", "_law_missing", "_law_kept", "_law_codes", "_law_every", "_law_k", "_law_e", "_law_due", "_law_at_z"]
theorem sc_law : FnScope N_law ["_law_script"] (defScope s_law) := ⟨rfl, rfl, rfl, by decide +kernel, rfl, by decide +kernel, by decide +kernel⟩
structure Txt (K : PySem.W.Frag) (mg : Str → Option Value) where
  f_copied : Addr
  fd_copied : FuncData
  F_copied : Fun K "copied" "copied" s_copied f_copied fd_copied
  g_copied : mg "copied" = some (.ref f_copied)
  k_copied : PySem.W.keepIn K (.ref f_copied) = true
  bd_copied : Binds K fd_copied ["value"] []
  f_InvalidRow_init : Addr
  fd_InvalidRow_init : FuncData
  F_InvalidRow_init : Fun K "__init__" "InvalidRow.__init__" s_InvalidRow_init f_InvalidRow_init fd_InvalidRow_init
  k_InvalidRow_init : PySem.W.keepIn K (.ref f_InvalidRow_init) = true
  bd_InvalidRow_init : Binds K fd_InvalidRow_init ["self", "at"] []
  f_InvalidPart_init : Addr
  fd_InvalidPart_init : FuncData
  F_InvalidPart_init : Fun K "__init__" "InvalidPart.__init__" s_InvalidPart_init f_InvalidPart_init fd_InvalidPart_init
  k_InvalidPart_init : PySem.W.keepIn K (.ref f_InvalidPart_init) = true
  bd_InvalidPart_init : Binds K fd_InvalidPart_init ["self", "given"] []
  f_InvalidMark_init : Addr
  fd_InvalidMark_init : FuncData
  F_InvalidMark_init : Fun K "__init__" "InvalidMark.__init__" s_InvalidMark_init f_InvalidMark_init fd_InvalidMark_init
  k_InvalidMark_init : PySem.W.keepIn K (.ref f_InvalidMark_init) = true
  bd_InvalidMark_init : Binds K fd_InvalidMark_init ["self", "given"] []
  f_InvalidOrder_init : Addr
  fd_InvalidOrder_init : FuncData
  F_InvalidOrder_init : Fun K "__init__" "InvalidOrder.__init__" s_InvalidOrder_init f_InvalidOrder_init fd_InvalidOrder_init
  k_InvalidOrder_init : PySem.W.keepIn K (.ref f_InvalidOrder_init) = true
  bd_InvalidOrder_init : Binds K fd_InvalidOrder_init ["self", "given"] []
  f_InvalidState_init : Addr
  fd_InvalidState_init : FuncData
  F_InvalidState_init : Fun K "__init__" "InvalidState.__init__" s_InvalidState_init f_InvalidState_init fd_InvalidState_init
  k_InvalidState_init : PySem.W.keepIn K (.ref f_InvalidState_init) = true
  bd_InvalidState_init : Binds K fd_InvalidState_init ["self", "at"] []
  f_InvalidAsk_init : Addr
  fd_InvalidAsk_init : FuncData
  F_InvalidAsk_init : Fun K "__init__" "InvalidAsk.__init__" s_InvalidAsk_init f_InvalidAsk_init fd_InvalidAsk_init
  k_InvalidAsk_init : PySem.W.keepIn K (.ref f_InvalidAsk_init) = true
  bd_InvalidAsk_init : Binds K fd_InvalidAsk_init ["self", "given"] []
  f_InvalidNumber_init : Addr
  fd_InvalidNumber_init : FuncData
  F_InvalidNumber_init : Fun K "__init__" "InvalidNumber.__init__" s_InvalidNumber_init f_InvalidNumber_init fd_InvalidNumber_init
  k_InvalidNumber_init : PySem.W.keepIn K (.ref f_InvalidNumber_init) = true
  bd_InvalidNumber_init : Binds K fd_InvalidNumber_init ["self", "given"] []
  f_InvalidStanding_init : Addr
  fd_InvalidStanding_init : FuncData
  F_InvalidStanding_init : Fun K "__init__" "InvalidStanding.__init__" s_InvalidStanding_init f_InvalidStanding_init fd_InvalidStanding_init
  k_InvalidStanding_init : PySem.W.keepIn K (.ref f_InvalidStanding_init) = true
  bd_InvalidStanding_init : Binds K fd_InvalidStanding_init ["self", "given"] []
  f_InvalidKind_init : Addr
  fd_InvalidKind_init : FuncData
  F_InvalidKind_init : Fun K "__init__" "InvalidKind.__init__" s_InvalidKind_init f_InvalidKind_init fd_InvalidKind_init
  k_InvalidKind_init : PySem.W.keepIn K (.ref f_InvalidKind_init) = true
  bd_InvalidKind_init : Binds K fd_InvalidKind_init ["self", "given"] []
  f_InvalidGroup_init : Addr
  fd_InvalidGroup_init : FuncData
  F_InvalidGroup_init : Fun K "__init__" "InvalidGroup.__init__" s_InvalidGroup_init f_InvalidGroup_init fd_InvalidGroup_init
  k_InvalidGroup_init : PySem.W.keepIn K (.ref f_InvalidGroup_init) = true
  bd_InvalidGroup_init : Binds K fd_InvalidGroup_init ["self", "at"] []
  f_InvalidWay_init : Addr
  fd_InvalidWay_init : FuncData
  F_InvalidWay_init : Fun K "__init__" "InvalidWay.__init__" s_InvalidWay_init f_InvalidWay_init fd_InvalidWay_init
  k_InvalidWay_init : PySem.W.keepIn K (.ref f_InvalidWay_init) = true
  bd_InvalidWay_init : Binds K fd_InvalidWay_init ["self", "given"] []
  f_InvalidName_init : Addr
  fd_InvalidName_init : FuncData
  F_InvalidName_init : Fun K "__init__" "InvalidName.__init__" s_InvalidName_init f_InvalidName_init fd_InvalidName_init
  k_InvalidName_init : PySem.W.keepIn K (.ref f_InvalidName_init) = true
  bd_InvalidName_init : Binds K fd_InvalidName_init ["self", "given"] []
  f_InvalidText_init : Addr
  fd_InvalidText_init : FuncData
  F_InvalidText_init : Fun K "__init__" "InvalidText.__init__" s_InvalidText_init f_InvalidText_init fd_InvalidText_init
  k_InvalidText_init : PySem.W.keepIn K (.ref f_InvalidText_init) = true
  bd_InvalidText_init : Binds K fd_InvalidText_init ["self", "line"] []
  f_InvalidCommand_init : Addr
  fd_InvalidCommand_init : FuncData
  F_InvalidCommand_init : Fun K "__init__" "InvalidCommand.__init__" s_InvalidCommand_init f_InvalidCommand_init fd_InvalidCommand_init
  k_InvalidCommand_init : PySem.W.keepIn K (.ref f_InvalidCommand_init) = true
  bd_InvalidCommand_init : Binds K fd_InvalidCommand_init ["self", "at"] []
  f_InvalidLimit_init : Addr
  fd_InvalidLimit_init : FuncData
  F_InvalidLimit_init : Fun K "__init__" "InvalidLimit.__init__" s_InvalidLimit_init f_InvalidLimit_init fd_InvalidLimit_init
  k_InvalidLimit_init : PySem.W.keepIn K (.ref f_InvalidLimit_init) = true
  bd_InvalidLimit_init : Binds K fd_InvalidLimit_init ["self", "given"] []
  f_DuplicateNumber_init : Addr
  fd_DuplicateNumber_init : FuncData
  F_DuplicateNumber_init : Fun K "__init__" "DuplicateNumber.__init__" s_DuplicateNumber_init f_DuplicateNumber_init fd_DuplicateNumber_init
  k_DuplicateNumber_init : PySem.W.keepIn K (.ref f_DuplicateNumber_init) = true
  bd_DuplicateNumber_init : Binds K fd_DuplicateNumber_init ["self", "number"] []
  f_DuplicateName_init : Addr
  fd_DuplicateName_init : FuncData
  F_DuplicateName_init : Fun K "__init__" "DuplicateName.__init__" s_DuplicateName_init f_DuplicateName_init fd_DuplicateName_init
  k_DuplicateName_init : PySem.W.keepIn K (.ref f_DuplicateName_init) = true
  bd_DuplicateName_init : Binds K fd_DuplicateName_init ["self", "name"] []
  f_TooMany_init : Addr
  fd_TooMany_init : FuncData
  F_TooMany_init : Fun K "__init__" "TooMany.__init__" s_TooMany_init f_TooMany_init fd_TooMany_init
  k_TooMany_init : PySem.W.keepIn K (.ref f_TooMany_init) = true
  bd_TooMany_init : Binds K fd_TooMany_init ["self", "most"] []
  f_PartsDiffer_init : Addr
  fd_PartsDiffer_init : FuncData
  F_PartsDiffer_init : Fun K "__init__" "PartsDiffer.__init__" s_PartsDiffer_init f_PartsDiffer_init fd_PartsDiffer_init
  k_PartsDiffer_init : PySem.W.keepIn K (.ref f_PartsDiffer_init) = true
  bd_PartsDiffer_init : Binds K fd_PartsDiffer_init ["self"] []
  f_WrongReader_init : Addr
  fd_WrongReader_init : FuncData
  F_WrongReader_init : Fun K "__init__" "WrongReader.__init__" s_WrongReader_init f_WrongReader_init fd_WrongReader_init
  k_WrongReader_init : PySem.W.keepIn K (.ref f_WrongReader_init) = true
  bd_WrongReader_init : Binds K fd_WrongReader_init ["self", "first"] []
  f_Ended_init : Addr
  fd_Ended_init : FuncData
  F_Ended_init : Fun K "__init__" "Ended.__init__" s_Ended_init f_Ended_init fd_Ended_init
  k_Ended_init : PySem.W.keepIn K (.ref f_Ended_init) = true
  bd_Ended_init : Binds K fd_Ended_init ["self"] []
  f_Full_init : Addr
  fd_Full_init : FuncData
  F_Full_init : Fun K "__init__" "Full.__init__" s_Full_init f_Full_init fd_Full_init
  k_Full_init : PySem.W.keepIn K (.ref f_Full_init) = true
  bd_Full_init : Binds K fd_Full_init ["self", "limit"] []
  f_UnknownName_init : Addr
  fd_UnknownName_init : FuncData
  F_UnknownName_init : Fun K "__init__" "UnknownName.__init__" s_UnknownName_init f_UnknownName_init fd_UnknownName_init
  k_UnknownName_init : PySem.W.keepIn K (.ref f_UnknownName_init) = true
  bd_UnknownName_init : Binds K fd_UnknownName_init ["self", "name"] []
  f_UnknownNumber_init : Addr
  fd_UnknownNumber_init : FuncData
  F_UnknownNumber_init : Fun K "__init__" "UnknownNumber.__init__" s_UnknownNumber_init f_UnknownNumber_init fd_UnknownNumber_init
  k_UnknownNumber_init : PySem.W.keepIn K (.ref f_UnknownNumber_init) = true
  bd_UnknownNumber_init : Binds K fd_UnknownNumber_init ["self", "number"] []
  f_NothingLeft_init : Addr
  fd_NothingLeft_init : FuncData
  F_NothingLeft_init : Fun K "__init__" "NothingLeft.__init__" s_NothingLeft_init f_NothingLeft_init fd_NothingLeft_init
  k_NothingLeft_init : PySem.W.keepIn K (.ref f_NothingLeft_init) = true
  bd_NothingLeft_init : Binds K fd_NothingLeft_init ["self"] []
  f_open : Addr
  fd_open : FuncData
  F_open : Fun K "_law_open" "_law_open" s_open f_open fd_open
  g_open : mg "_law_open" = some (.ref f_open)
  k_open : PySem.W.keepIn K (.ref f_open) = true
  bd_open : Binds K fd_open ["_law_script"] []
  f_draw : Addr
  fd_draw : FuncData
  F_draw : Fun K "_law_draw" "_law_draw" s_draw f_draw fd_draw
  g_draw : mg "_law_draw" = some (.ref f_draw)
  k_draw : PySem.W.keepIn K (.ref f_draw) = true
  bd_draw : Binds K fd_draw ["_law_bag", "_law_many"] []
  f_of : Addr
  fd_of : FuncData
  F_of : Fun K "_law_of" "_law_of" s_of f_of fd_of
  g_of : mg "_law_of" = some (.ref f_of)
  k_of : PySem.W.keepIn K (.ref f_of) = true
  bd_of : Binds K fd_of ["_law_bag", "_law_things"] []
  f_like : Addr
  fd_like : FuncData
  F_like : Fun K "_law_like" "_law_like" s_like f_like fd_like
  g_like : mg "_law_like" = some (.ref f_like)
  k_like : PySem.W.keepIn K (.ref f_like) = true
  bd_like : Binds K fd_like ["_law_found", "_law_due"] []
  f_kinds_of : Addr
  fd_kinds_of : FuncData
  F_kinds_of : Fun K "_law_kinds_of" "_law_kinds_of" s_kinds_of f_kinds_of fd_kinds_of
  g_kinds_of : mg "_law_kinds_of" = some (.ref f_kinds_of)
  k_kinds_of : PySem.W.keepIn K (.ref f_kinds_of) = true
  bd_kinds_of : Binds K fd_kinds_of ["_law_e"] []
  f_all_kinds : Addr
  fd_all_kinds : FuncData
  F_all_kinds : Fun K "_law_all_kinds" "_law_all_kinds" s_all_kinds f_all_kinds fd_all_kinds
  g_all_kinds : mg "_law_all_kinds" = some (.ref f_all_kinds)
  k_all_kinds : PySem.W.keepIn K (.ref f_all_kinds) = true
  bd_all_kinds : Binds K fd_all_kinds ["_law_e"] []
  f_law : Addr
  fd_law : FuncData
  F_law : Fun K "law" "law" s_law f_law fd_law
  g_law : mg "law" = some (.ref f_law)
  k_law : PySem.W.keepIn K (.ref f_law) = true
  bd_law : Binds K fd_law ["_law_script"] []
  b_IndexError : mg "IndexError" = none
  b_KeyError : mg "KeyError" = none
  b_LookupError : mg "LookupError" = none
  b_ValueError : mg "ValueError" = none
  b_all : mg "all" = none
  b_bool : mg "bool" = none
  b_enumerate : mg "enumerate" = none
  b_int : mg "int" = none
  b_isinstance : mg "isinstance" = none
  b_len : mg "len" = none
  b_list : mg "list" = none
  b_range : mg "range" = none
  b_str : mg "str" = none
  b_tuple : mg "tuple" = none
  b_zip : mg "zip" = none
  c_PartError : Addr
  g_PartError : mg "PartError" = some (.ref c_PartError)
  c_Missing : Addr
  g_Missing : mg "Missing" = some (.ref c_Missing)
  c_InvalidRow : Addr
  g_InvalidRow : mg "InvalidRow" = some (.ref c_InvalidRow)
  c_InvalidState : Addr
  g_InvalidState : mg "InvalidState" = some (.ref c_InvalidState)
  c_InvalidGroup : Addr
  g_InvalidGroup : mg "InvalidGroup" = some (.ref c_InvalidGroup)
  c_InvalidCommand : Addr
  g_InvalidCommand : mg "InvalidCommand" = some (.ref c_InvalidCommand)
  c_InvalidPart : Addr
  g_InvalidPart : mg "InvalidPart" = some (.ref c_InvalidPart)
  c_InvalidMark : Addr
  g_InvalidMark : mg "InvalidMark" = some (.ref c_InvalidMark)
  c_InvalidOrder : Addr
  g_InvalidOrder : mg "InvalidOrder" = some (.ref c_InvalidOrder)
  c_InvalidAsk : Addr
  g_InvalidAsk : mg "InvalidAsk" = some (.ref c_InvalidAsk)
  c_InvalidNumber : Addr
  g_InvalidNumber : mg "InvalidNumber" = some (.ref c_InvalidNumber)
  c_InvalidStanding : Addr
  g_InvalidStanding : mg "InvalidStanding" = some (.ref c_InvalidStanding)
  c_InvalidKind : Addr
  g_InvalidKind : mg "InvalidKind" = some (.ref c_InvalidKind)
  c_InvalidWay : Addr
  g_InvalidWay : mg "InvalidWay" = some (.ref c_InvalidWay)
  c_InvalidName : Addr
  g_InvalidName : mg "InvalidName" = some (.ref c_InvalidName)
  c_InvalidLimit : Addr
  g_InvalidLimit : mg "InvalidLimit" = some (.ref c_InvalidLimit)
  c_InvalidText : Addr
  g_InvalidText : mg "InvalidText" = some (.ref c_InvalidText)
  c_DuplicateNumber : Addr
  g_DuplicateNumber : mg "DuplicateNumber" = some (.ref c_DuplicateNumber)
  c_DuplicateName : Addr
  g_DuplicateName : mg "DuplicateName" = some (.ref c_DuplicateName)
  c_TooMany : Addr
  g_TooMany : mg "TooMany" = some (.ref c_TooMany)
  c_WrongReader : Addr
  g_WrongReader : mg "WrongReader" = some (.ref c_WrongReader)
  c_Full : Addr
  g_Full : mg "Full" = some (.ref c_Full)
  c_PartsDiffer : Addr
  g_PartsDiffer : mg "PartsDiffer" = some (.ref c_PartsDiffer)
  c_Ended : Addr
  g_Ended : mg "Ended" = some (.ref c_Ended)
  c_UnknownName : Addr
  g_UnknownName : mg "UnknownName" = some (.ref c_UnknownName)
  c_UnknownNumber : Addr
  g_UnknownNumber : mg "UnknownNumber" = some (.ref c_UnknownNumber)
  c_NothingLeft : Addr
  g_NothingLeft : mg "NothingLeft" = some (.ref c_NothingLeft)
  xa_InvalidRow : XAll K c_InvalidRow f_InvalidRow_init ["code", "at"]
  xa_InvalidState : XAll K c_InvalidState f_InvalidState_init ["code", "at"]
  xa_InvalidGroup : XAll K c_InvalidGroup f_InvalidGroup_init ["code", "at"]
  xa_InvalidCommand : XAll K c_InvalidCommand f_InvalidCommand_init ["code", "at"]
  xa_InvalidPart : XAll K c_InvalidPart f_InvalidPart_init ["code", "given"]
  xa_InvalidMark : XAll K c_InvalidMark f_InvalidMark_init ["code", "given"]
  xa_InvalidOrder : XAll K c_InvalidOrder f_InvalidOrder_init ["code", "given"]
  xa_InvalidAsk : XAll K c_InvalidAsk f_InvalidAsk_init ["code", "given"]
  xa_InvalidNumber : XAll K c_InvalidNumber f_InvalidNumber_init ["code", "given"]
  xa_InvalidStanding : XAll K c_InvalidStanding f_InvalidStanding_init ["code", "given"]
  xa_InvalidKind : XAll K c_InvalidKind f_InvalidKind_init ["code", "given"]
  xa_InvalidWay : XAll K c_InvalidWay f_InvalidWay_init ["code", "given"]
  xa_InvalidName : XAll K c_InvalidName f_InvalidName_init ["code", "given"]
  xa_InvalidLimit : XAll K c_InvalidLimit f_InvalidLimit_init ["code", "given"]
  xa_InvalidText : XAll K c_InvalidText f_InvalidText_init ["code", "line"]
  xa_DuplicateNumber : XAll K c_DuplicateNumber f_DuplicateNumber_init ["code", "number"]
  xa_DuplicateName : XAll K c_DuplicateName f_DuplicateName_init ["code", "name"]
  xa_TooMany : XAll K c_TooMany f_TooMany_init ["code", "most"]
  xa_WrongReader : XAll K c_WrongReader f_WrongReader_init ["code", "first"]
  xa_Full : XAll K c_Full f_Full_init ["code", "limit"]
  xa_PartsDiffer : XAll K c_PartsDiffer f_PartsDiffer_init ["code"]
  xa_Ended : XAll K c_Ended f_Ended_init ["code"]
  xa_UnknownName : XAll K c_UnknownName f_UnknownName_init ["code", "name"]
  xa_UnknownNumber : XAll K c_UnknownNumber f_UnknownNumber_init ["code", "number"]
  xa_NothingLeft : XAll K c_NothingLeft f_NothingLeft_init ["code"]
  kx : kitX K [c_InvalidRow, c_InvalidState, c_InvalidGroup, c_InvalidCommand, c_InvalidPart, c_InvalidMark, c_InvalidOrder, c_InvalidAsk, c_InvalidNumber, c_InvalidStanding, c_InvalidKind, c_InvalidWay, c_InvalidName, c_InvalidLimit, c_InvalidText, c_DuplicateNumber, c_DuplicateName, c_TooMany, c_WrongReader, c_Full, c_PartsDiffer, c_Ended, c_UnknownName, c_UnknownNumber, c_NothingLeft] c_PartError c_Missing c_NothingLeft = true



def gx1 {α : Type} (us ws : List α) : List α := match us, ws with | [a, b], [] => [a, b] | _, _ => []
def gxk {α : Type} (us ws : List α) : List α := match us, ws with | [a], [b] => [a, b] | _, _ => []
def gx0 {α : Type} (us ws : List α) : List α := match us, ws with | [a], [] => [a] | _, _ => []
theorem rel_gx1 {vs zs : List V} {us ws : List Value} (r : Vals vs us) (rz : Vals zs ws) : Vals (gx1 vs zs) (gx1 us ws) := by
  match r, rz with
  | .cons r1 (.cons r2 .nil), .nil => exact .cons r1 (.cons r2 .nil)
  | .nil, .nil => exact .nil
  | .cons _ .nil, .nil => exact .nil
  | .cons _ (.cons _ (.cons _ _)), .nil => exact .nil
  | .nil, .cons _ _ => exact .nil
  | .cons _ .nil, .cons _ _ => exact .nil
  | .cons _ (.cons _ .nil), .cons _ _ => exact .nil
  | .cons _ (.cons _ (.cons _ _)), .cons _ _ => exact .nil
theorem rel_gxk {vs zs : List V} {us ws : List Value} (r : Vals vs us) (rz : Vals zs ws) : Vals (gxk vs zs) (gxk us ws) := by
  match r, rz with
  | .cons r1 .nil, .cons r2 .nil => exact .cons r1 (.cons r2 .nil)
  | .nil, .nil => exact .nil
  | .nil, .cons _ _ => exact .nil
  | .cons _ .nil, .nil => exact .nil
  | .cons _ (.cons _ _), .nil => exact .nil
  | .cons _ .nil, .cons _ (.cons _ _) => exact .nil
  | .cons _ (.cons _ _), .cons _ _ => exact .nil
theorem rel_gx0 {vs zs : List V} {us ws : List Value} (r : Vals vs us) (rz : Vals zs ws) : Vals (gx0 vs zs) (gx0 us ws) := by
  match r, rz with
  | .cons r1 .nil, .nil => exact .cons r1 .nil
  | .nil, .nil => exact .nil
  | .cons _ (.cons _ _), .nil => exact .nil
  | .nil, .cons _ _ => exact .nil
  | .cons _ .nil, .cons _ _ => exact .nil
  | .cons _ (.cons _ _), .cons _ _ => exact .nil
theorem kxp_InvalidRow {K : PySem.W.Frag} {mg : Str → Option Value} (T : Txt K mg) : KBn K T.fd_InvalidRow_init ["self", "at"] 2 [] gx1 gx1 := by
  obtain ⟨oc, od, kV, doc, pm, an, cdv, ct, osl, hfd, lk, hcd⟩ := T.F_InvalidRow_init.ex
  refine ⟨fun s us ws _ h1 h2 => ?_, fun {vs us zs ws} r rz => ?_⟩
  · rw [hfd]
    match us, ws, h1, h2 with
    | [_, _], [], _, _ => exact .of_eq rfl
  · exact rel_gx1 r rz
theorem kxk_InvalidRow {K : PySem.W.Frag} {mg : Str → Option Value} (T : Txt K mg) : KBn K T.fd_InvalidRow_init ["self", "at"] 1 ["at"] gxk gxk := by
  obtain ⟨oc, od, kV, doc, pm, an, cdv, ct, osl, hfd, lk, hcd⟩ := T.F_InvalidRow_init.ex
  refine ⟨fun s us ws _ h1 h2 => ?_, fun {vs us zs ws} r rz => ?_⟩
  · rw [hfd]
    match us, ws, h1, h2 with
    | [_], [_], _, _ => exact .of_eq rfl
  · exact rel_gxk r rz
theorem kxp_InvalidState {K : PySem.W.Frag} {mg : Str → Option Value} (T : Txt K mg) : KBn K T.fd_InvalidState_init ["self", "at"] 2 [] gx1 gx1 := by
  obtain ⟨oc, od, kV, doc, pm, an, cdv, ct, osl, hfd, lk, hcd⟩ := T.F_InvalidState_init.ex
  refine ⟨fun s us ws _ h1 h2 => ?_, fun {vs us zs ws} r rz => ?_⟩
  · rw [hfd]
    match us, ws, h1, h2 with
    | [_, _], [], _, _ => exact .of_eq rfl
  · exact rel_gx1 r rz
theorem kxk_InvalidState {K : PySem.W.Frag} {mg : Str → Option Value} (T : Txt K mg) : KBn K T.fd_InvalidState_init ["self", "at"] 1 ["at"] gxk gxk := by
  obtain ⟨oc, od, kV, doc, pm, an, cdv, ct, osl, hfd, lk, hcd⟩ := T.F_InvalidState_init.ex
  refine ⟨fun s us ws _ h1 h2 => ?_, fun {vs us zs ws} r rz => ?_⟩
  · rw [hfd]
    match us, ws, h1, h2 with
    | [_], [_], _, _ => exact .of_eq rfl
  · exact rel_gxk r rz
theorem kxp_InvalidGroup {K : PySem.W.Frag} {mg : Str → Option Value} (T : Txt K mg) : KBn K T.fd_InvalidGroup_init ["self", "at"] 2 [] gx1 gx1 := by
  obtain ⟨oc, od, kV, doc, pm, an, cdv, ct, osl, hfd, lk, hcd⟩ := T.F_InvalidGroup_init.ex
  refine ⟨fun s us ws _ h1 h2 => ?_, fun {vs us zs ws} r rz => ?_⟩
  · rw [hfd]
    match us, ws, h1, h2 with
    | [_, _], [], _, _ => exact .of_eq rfl
  · exact rel_gx1 r rz
theorem kxk_InvalidGroup {K : PySem.W.Frag} {mg : Str → Option Value} (T : Txt K mg) : KBn K T.fd_InvalidGroup_init ["self", "at"] 1 ["at"] gxk gxk := by
  obtain ⟨oc, od, kV, doc, pm, an, cdv, ct, osl, hfd, lk, hcd⟩ := T.F_InvalidGroup_init.ex
  refine ⟨fun s us ws _ h1 h2 => ?_, fun {vs us zs ws} r rz => ?_⟩
  · rw [hfd]
    match us, ws, h1, h2 with
    | [_], [_], _, _ => exact .of_eq rfl
  · exact rel_gxk r rz
theorem kxp_InvalidCommand {K : PySem.W.Frag} {mg : Str → Option Value} (T : Txt K mg) : KBn K T.fd_InvalidCommand_init ["self", "at"] 2 [] gx1 gx1 := by
  obtain ⟨oc, od, kV, doc, pm, an, cdv, ct, osl, hfd, lk, hcd⟩ := T.F_InvalidCommand_init.ex
  refine ⟨fun s us ws _ h1 h2 => ?_, fun {vs us zs ws} r rz => ?_⟩
  · rw [hfd]
    match us, ws, h1, h2 with
    | [_, _], [], _, _ => exact .of_eq rfl
  · exact rel_gx1 r rz
theorem kxk_InvalidCommand {K : PySem.W.Frag} {mg : Str → Option Value} (T : Txt K mg) : KBn K T.fd_InvalidCommand_init ["self", "at"] 1 ["at"] gxk gxk := by
  obtain ⟨oc, od, kV, doc, pm, an, cdv, ct, osl, hfd, lk, hcd⟩ := T.F_InvalidCommand_init.ex
  refine ⟨fun s us ws _ h1 h2 => ?_, fun {vs us zs ws} r rz => ?_⟩
  · rw [hfd]
    match us, ws, h1, h2 with
    | [_], [_], _, _ => exact .of_eq rfl
  · exact rel_gxk r rz
theorem kxp_InvalidPart {K : PySem.W.Frag} {mg : Str → Option Value} (T : Txt K mg) : KBn K T.fd_InvalidPart_init ["self", "given"] 2 [] gx1 gx1 := by
  obtain ⟨oc, od, kV, doc, pm, an, cdv, ct, osl, hfd, lk, hcd⟩ := T.F_InvalidPart_init.ex
  refine ⟨fun s us ws _ h1 h2 => ?_, fun {vs us zs ws} r rz => ?_⟩
  · rw [hfd]
    match us, ws, h1, h2 with
    | [_, _], [], _, _ => exact .of_eq rfl
  · exact rel_gx1 r rz
theorem kxk_InvalidPart {K : PySem.W.Frag} {mg : Str → Option Value} (T : Txt K mg) : KBn K T.fd_InvalidPart_init ["self", "given"] 1 ["given"] gxk gxk := by
  obtain ⟨oc, od, kV, doc, pm, an, cdv, ct, osl, hfd, lk, hcd⟩ := T.F_InvalidPart_init.ex
  refine ⟨fun s us ws _ h1 h2 => ?_, fun {vs us zs ws} r rz => ?_⟩
  · rw [hfd]
    match us, ws, h1, h2 with
    | [_], [_], _, _ => exact .of_eq rfl
  · exact rel_gxk r rz
theorem kxp_InvalidMark {K : PySem.W.Frag} {mg : Str → Option Value} (T : Txt K mg) : KBn K T.fd_InvalidMark_init ["self", "given"] 2 [] gx1 gx1 := by
  obtain ⟨oc, od, kV, doc, pm, an, cdv, ct, osl, hfd, lk, hcd⟩ := T.F_InvalidMark_init.ex
  refine ⟨fun s us ws _ h1 h2 => ?_, fun {vs us zs ws} r rz => ?_⟩
  · rw [hfd]
    match us, ws, h1, h2 with
    | [_, _], [], _, _ => exact .of_eq rfl
  · exact rel_gx1 r rz
theorem kxk_InvalidMark {K : PySem.W.Frag} {mg : Str → Option Value} (T : Txt K mg) : KBn K T.fd_InvalidMark_init ["self", "given"] 1 ["given"] gxk gxk := by
  obtain ⟨oc, od, kV, doc, pm, an, cdv, ct, osl, hfd, lk, hcd⟩ := T.F_InvalidMark_init.ex
  refine ⟨fun s us ws _ h1 h2 => ?_, fun {vs us zs ws} r rz => ?_⟩
  · rw [hfd]
    match us, ws, h1, h2 with
    | [_], [_], _, _ => exact .of_eq rfl
  · exact rel_gxk r rz
theorem kxp_InvalidOrder {K : PySem.W.Frag} {mg : Str → Option Value} (T : Txt K mg) : KBn K T.fd_InvalidOrder_init ["self", "given"] 2 [] gx1 gx1 := by
  obtain ⟨oc, od, kV, doc, pm, an, cdv, ct, osl, hfd, lk, hcd⟩ := T.F_InvalidOrder_init.ex
  refine ⟨fun s us ws _ h1 h2 => ?_, fun {vs us zs ws} r rz => ?_⟩
  · rw [hfd]
    match us, ws, h1, h2 with
    | [_, _], [], _, _ => exact .of_eq rfl
  · exact rel_gx1 r rz
theorem kxk_InvalidOrder {K : PySem.W.Frag} {mg : Str → Option Value} (T : Txt K mg) : KBn K T.fd_InvalidOrder_init ["self", "given"] 1 ["given"] gxk gxk := by
  obtain ⟨oc, od, kV, doc, pm, an, cdv, ct, osl, hfd, lk, hcd⟩ := T.F_InvalidOrder_init.ex
  refine ⟨fun s us ws _ h1 h2 => ?_, fun {vs us zs ws} r rz => ?_⟩
  · rw [hfd]
    match us, ws, h1, h2 with
    | [_], [_], _, _ => exact .of_eq rfl
  · exact rel_gxk r rz
theorem kxp_InvalidAsk {K : PySem.W.Frag} {mg : Str → Option Value} (T : Txt K mg) : KBn K T.fd_InvalidAsk_init ["self", "given"] 2 [] gx1 gx1 := by
  obtain ⟨oc, od, kV, doc, pm, an, cdv, ct, osl, hfd, lk, hcd⟩ := T.F_InvalidAsk_init.ex
  refine ⟨fun s us ws _ h1 h2 => ?_, fun {vs us zs ws} r rz => ?_⟩
  · rw [hfd]
    match us, ws, h1, h2 with
    | [_, _], [], _, _ => exact .of_eq rfl
  · exact rel_gx1 r rz
theorem kxk_InvalidAsk {K : PySem.W.Frag} {mg : Str → Option Value} (T : Txt K mg) : KBn K T.fd_InvalidAsk_init ["self", "given"] 1 ["given"] gxk gxk := by
  obtain ⟨oc, od, kV, doc, pm, an, cdv, ct, osl, hfd, lk, hcd⟩ := T.F_InvalidAsk_init.ex
  refine ⟨fun s us ws _ h1 h2 => ?_, fun {vs us zs ws} r rz => ?_⟩
  · rw [hfd]
    match us, ws, h1, h2 with
    | [_], [_], _, _ => exact .of_eq rfl
  · exact rel_gxk r rz
theorem kxp_InvalidNumber {K : PySem.W.Frag} {mg : Str → Option Value} (T : Txt K mg) : KBn K T.fd_InvalidNumber_init ["self", "given"] 2 [] gx1 gx1 := by
  obtain ⟨oc, od, kV, doc, pm, an, cdv, ct, osl, hfd, lk, hcd⟩ := T.F_InvalidNumber_init.ex
  refine ⟨fun s us ws _ h1 h2 => ?_, fun {vs us zs ws} r rz => ?_⟩
  · rw [hfd]
    match us, ws, h1, h2 with
    | [_, _], [], _, _ => exact .of_eq rfl
  · exact rel_gx1 r rz
theorem kxk_InvalidNumber {K : PySem.W.Frag} {mg : Str → Option Value} (T : Txt K mg) : KBn K T.fd_InvalidNumber_init ["self", "given"] 1 ["given"] gxk gxk := by
  obtain ⟨oc, od, kV, doc, pm, an, cdv, ct, osl, hfd, lk, hcd⟩ := T.F_InvalidNumber_init.ex
  refine ⟨fun s us ws _ h1 h2 => ?_, fun {vs us zs ws} r rz => ?_⟩
  · rw [hfd]
    match us, ws, h1, h2 with
    | [_], [_], _, _ => exact .of_eq rfl
  · exact rel_gxk r rz
theorem kxp_InvalidStanding {K : PySem.W.Frag} {mg : Str → Option Value} (T : Txt K mg) : KBn K T.fd_InvalidStanding_init ["self", "given"] 2 [] gx1 gx1 := by
  obtain ⟨oc, od, kV, doc, pm, an, cdv, ct, osl, hfd, lk, hcd⟩ := T.F_InvalidStanding_init.ex
  refine ⟨fun s us ws _ h1 h2 => ?_, fun {vs us zs ws} r rz => ?_⟩
  · rw [hfd]
    match us, ws, h1, h2 with
    | [_, _], [], _, _ => exact .of_eq rfl
  · exact rel_gx1 r rz
theorem kxk_InvalidStanding {K : PySem.W.Frag} {mg : Str → Option Value} (T : Txt K mg) : KBn K T.fd_InvalidStanding_init ["self", "given"] 1 ["given"] gxk gxk := by
  obtain ⟨oc, od, kV, doc, pm, an, cdv, ct, osl, hfd, lk, hcd⟩ := T.F_InvalidStanding_init.ex
  refine ⟨fun s us ws _ h1 h2 => ?_, fun {vs us zs ws} r rz => ?_⟩
  · rw [hfd]
    match us, ws, h1, h2 with
    | [_], [_], _, _ => exact .of_eq rfl
  · exact rel_gxk r rz
theorem kxp_InvalidKind {K : PySem.W.Frag} {mg : Str → Option Value} (T : Txt K mg) : KBn K T.fd_InvalidKind_init ["self", "given"] 2 [] gx1 gx1 := by
  obtain ⟨oc, od, kV, doc, pm, an, cdv, ct, osl, hfd, lk, hcd⟩ := T.F_InvalidKind_init.ex
  refine ⟨fun s us ws _ h1 h2 => ?_, fun {vs us zs ws} r rz => ?_⟩
  · rw [hfd]
    match us, ws, h1, h2 with
    | [_, _], [], _, _ => exact .of_eq rfl
  · exact rel_gx1 r rz
theorem kxk_InvalidKind {K : PySem.W.Frag} {mg : Str → Option Value} (T : Txt K mg) : KBn K T.fd_InvalidKind_init ["self", "given"] 1 ["given"] gxk gxk := by
  obtain ⟨oc, od, kV, doc, pm, an, cdv, ct, osl, hfd, lk, hcd⟩ := T.F_InvalidKind_init.ex
  refine ⟨fun s us ws _ h1 h2 => ?_, fun {vs us zs ws} r rz => ?_⟩
  · rw [hfd]
    match us, ws, h1, h2 with
    | [_], [_], _, _ => exact .of_eq rfl
  · exact rel_gxk r rz
theorem kxp_InvalidWay {K : PySem.W.Frag} {mg : Str → Option Value} (T : Txt K mg) : KBn K T.fd_InvalidWay_init ["self", "given"] 2 [] gx1 gx1 := by
  obtain ⟨oc, od, kV, doc, pm, an, cdv, ct, osl, hfd, lk, hcd⟩ := T.F_InvalidWay_init.ex
  refine ⟨fun s us ws _ h1 h2 => ?_, fun {vs us zs ws} r rz => ?_⟩
  · rw [hfd]
    match us, ws, h1, h2 with
    | [_, _], [], _, _ => exact .of_eq rfl
  · exact rel_gx1 r rz
theorem kxk_InvalidWay {K : PySem.W.Frag} {mg : Str → Option Value} (T : Txt K mg) : KBn K T.fd_InvalidWay_init ["self", "given"] 1 ["given"] gxk gxk := by
  obtain ⟨oc, od, kV, doc, pm, an, cdv, ct, osl, hfd, lk, hcd⟩ := T.F_InvalidWay_init.ex
  refine ⟨fun s us ws _ h1 h2 => ?_, fun {vs us zs ws} r rz => ?_⟩
  · rw [hfd]
    match us, ws, h1, h2 with
    | [_], [_], _, _ => exact .of_eq rfl
  · exact rel_gxk r rz
theorem kxp_InvalidName {K : PySem.W.Frag} {mg : Str → Option Value} (T : Txt K mg) : KBn K T.fd_InvalidName_init ["self", "given"] 2 [] gx1 gx1 := by
  obtain ⟨oc, od, kV, doc, pm, an, cdv, ct, osl, hfd, lk, hcd⟩ := T.F_InvalidName_init.ex
  refine ⟨fun s us ws _ h1 h2 => ?_, fun {vs us zs ws} r rz => ?_⟩
  · rw [hfd]
    match us, ws, h1, h2 with
    | [_, _], [], _, _ => exact .of_eq rfl
  · exact rel_gx1 r rz
theorem kxk_InvalidName {K : PySem.W.Frag} {mg : Str → Option Value} (T : Txt K mg) : KBn K T.fd_InvalidName_init ["self", "given"] 1 ["given"] gxk gxk := by
  obtain ⟨oc, od, kV, doc, pm, an, cdv, ct, osl, hfd, lk, hcd⟩ := T.F_InvalidName_init.ex
  refine ⟨fun s us ws _ h1 h2 => ?_, fun {vs us zs ws} r rz => ?_⟩
  · rw [hfd]
    match us, ws, h1, h2 with
    | [_], [_], _, _ => exact .of_eq rfl
  · exact rel_gxk r rz
theorem kxp_InvalidLimit {K : PySem.W.Frag} {mg : Str → Option Value} (T : Txt K mg) : KBn K T.fd_InvalidLimit_init ["self", "given"] 2 [] gx1 gx1 := by
  obtain ⟨oc, od, kV, doc, pm, an, cdv, ct, osl, hfd, lk, hcd⟩ := T.F_InvalidLimit_init.ex
  refine ⟨fun s us ws _ h1 h2 => ?_, fun {vs us zs ws} r rz => ?_⟩
  · rw [hfd]
    match us, ws, h1, h2 with
    | [_, _], [], _, _ => exact .of_eq rfl
  · exact rel_gx1 r rz
theorem kxk_InvalidLimit {K : PySem.W.Frag} {mg : Str → Option Value} (T : Txt K mg) : KBn K T.fd_InvalidLimit_init ["self", "given"] 1 ["given"] gxk gxk := by
  obtain ⟨oc, od, kV, doc, pm, an, cdv, ct, osl, hfd, lk, hcd⟩ := T.F_InvalidLimit_init.ex
  refine ⟨fun s us ws _ h1 h2 => ?_, fun {vs us zs ws} r rz => ?_⟩
  · rw [hfd]
    match us, ws, h1, h2 with
    | [_], [_], _, _ => exact .of_eq rfl
  · exact rel_gxk r rz
theorem kxp_InvalidText {K : PySem.W.Frag} {mg : Str → Option Value} (T : Txt K mg) : KBn K T.fd_InvalidText_init ["self", "line"] 2 [] gx1 gx1 := by
  obtain ⟨oc, od, kV, doc, pm, an, cdv, ct, osl, hfd, lk, hcd⟩ := T.F_InvalidText_init.ex
  refine ⟨fun s us ws _ h1 h2 => ?_, fun {vs us zs ws} r rz => ?_⟩
  · rw [hfd]
    match us, ws, h1, h2 with
    | [_, _], [], _, _ => exact .of_eq rfl
  · exact rel_gx1 r rz
theorem kxk_InvalidText {K : PySem.W.Frag} {mg : Str → Option Value} (T : Txt K mg) : KBn K T.fd_InvalidText_init ["self", "line"] 1 ["line"] gxk gxk := by
  obtain ⟨oc, od, kV, doc, pm, an, cdv, ct, osl, hfd, lk, hcd⟩ := T.F_InvalidText_init.ex
  refine ⟨fun s us ws _ h1 h2 => ?_, fun {vs us zs ws} r rz => ?_⟩
  · rw [hfd]
    match us, ws, h1, h2 with
    | [_], [_], _, _ => exact .of_eq rfl
  · exact rel_gxk r rz
theorem kxp_DuplicateNumber {K : PySem.W.Frag} {mg : Str → Option Value} (T : Txt K mg) : KBn K T.fd_DuplicateNumber_init ["self", "number"] 2 [] gx1 gx1 := by
  obtain ⟨oc, od, kV, doc, pm, an, cdv, ct, osl, hfd, lk, hcd⟩ := T.F_DuplicateNumber_init.ex
  refine ⟨fun s us ws _ h1 h2 => ?_, fun {vs us zs ws} r rz => ?_⟩
  · rw [hfd]
    match us, ws, h1, h2 with
    | [_, _], [], _, _ => exact .of_eq rfl
  · exact rel_gx1 r rz
theorem kxk_DuplicateNumber {K : PySem.W.Frag} {mg : Str → Option Value} (T : Txt K mg) : KBn K T.fd_DuplicateNumber_init ["self", "number"] 1 ["number"] gxk gxk := by
  obtain ⟨oc, od, kV, doc, pm, an, cdv, ct, osl, hfd, lk, hcd⟩ := T.F_DuplicateNumber_init.ex
  refine ⟨fun s us ws _ h1 h2 => ?_, fun {vs us zs ws} r rz => ?_⟩
  · rw [hfd]
    match us, ws, h1, h2 with
    | [_], [_], _, _ => exact .of_eq rfl
  · exact rel_gxk r rz
theorem kxp_DuplicateName {K : PySem.W.Frag} {mg : Str → Option Value} (T : Txt K mg) : KBn K T.fd_DuplicateName_init ["self", "name"] 2 [] gx1 gx1 := by
  obtain ⟨oc, od, kV, doc, pm, an, cdv, ct, osl, hfd, lk, hcd⟩ := T.F_DuplicateName_init.ex
  refine ⟨fun s us ws _ h1 h2 => ?_, fun {vs us zs ws} r rz => ?_⟩
  · rw [hfd]
    match us, ws, h1, h2 with
    | [_, _], [], _, _ => exact .of_eq rfl
  · exact rel_gx1 r rz
theorem kxk_DuplicateName {K : PySem.W.Frag} {mg : Str → Option Value} (T : Txt K mg) : KBn K T.fd_DuplicateName_init ["self", "name"] 1 ["name"] gxk gxk := by
  obtain ⟨oc, od, kV, doc, pm, an, cdv, ct, osl, hfd, lk, hcd⟩ := T.F_DuplicateName_init.ex
  refine ⟨fun s us ws _ h1 h2 => ?_, fun {vs us zs ws} r rz => ?_⟩
  · rw [hfd]
    match us, ws, h1, h2 with
    | [_], [_], _, _ => exact .of_eq rfl
  · exact rel_gxk r rz
theorem kxp_TooMany {K : PySem.W.Frag} {mg : Str → Option Value} (T : Txt K mg) : KBn K T.fd_TooMany_init ["self", "most"] 2 [] gx1 gx1 := by
  obtain ⟨oc, od, kV, doc, pm, an, cdv, ct, osl, hfd, lk, hcd⟩ := T.F_TooMany_init.ex
  refine ⟨fun s us ws _ h1 h2 => ?_, fun {vs us zs ws} r rz => ?_⟩
  · rw [hfd]
    match us, ws, h1, h2 with
    | [_, _], [], _, _ => exact .of_eq rfl
  · exact rel_gx1 r rz
theorem kxk_TooMany {K : PySem.W.Frag} {mg : Str → Option Value} (T : Txt K mg) : KBn K T.fd_TooMany_init ["self", "most"] 1 ["most"] gxk gxk := by
  obtain ⟨oc, od, kV, doc, pm, an, cdv, ct, osl, hfd, lk, hcd⟩ := T.F_TooMany_init.ex
  refine ⟨fun s us ws _ h1 h2 => ?_, fun {vs us zs ws} r rz => ?_⟩
  · rw [hfd]
    match us, ws, h1, h2 with
    | [_], [_], _, _ => exact .of_eq rfl
  · exact rel_gxk r rz
theorem kxp_WrongReader {K : PySem.W.Frag} {mg : Str → Option Value} (T : Txt K mg) : KBn K T.fd_WrongReader_init ["self", "first"] 2 [] gx1 gx1 := by
  obtain ⟨oc, od, kV, doc, pm, an, cdv, ct, osl, hfd, lk, hcd⟩ := T.F_WrongReader_init.ex
  refine ⟨fun s us ws _ h1 h2 => ?_, fun {vs us zs ws} r rz => ?_⟩
  · rw [hfd]
    match us, ws, h1, h2 with
    | [_, _], [], _, _ => exact .of_eq rfl
  · exact rel_gx1 r rz
theorem kxk_WrongReader {K : PySem.W.Frag} {mg : Str → Option Value} (T : Txt K mg) : KBn K T.fd_WrongReader_init ["self", "first"] 1 ["first"] gxk gxk := by
  obtain ⟨oc, od, kV, doc, pm, an, cdv, ct, osl, hfd, lk, hcd⟩ := T.F_WrongReader_init.ex
  refine ⟨fun s us ws _ h1 h2 => ?_, fun {vs us zs ws} r rz => ?_⟩
  · rw [hfd]
    match us, ws, h1, h2 with
    | [_], [_], _, _ => exact .of_eq rfl
  · exact rel_gxk r rz
theorem kxp_Full {K : PySem.W.Frag} {mg : Str → Option Value} (T : Txt K mg) : KBn K T.fd_Full_init ["self", "limit"] 2 [] gx1 gx1 := by
  obtain ⟨oc, od, kV, doc, pm, an, cdv, ct, osl, hfd, lk, hcd⟩ := T.F_Full_init.ex
  refine ⟨fun s us ws _ h1 h2 => ?_, fun {vs us zs ws} r rz => ?_⟩
  · rw [hfd]
    match us, ws, h1, h2 with
    | [_, _], [], _, _ => exact .of_eq rfl
  · exact rel_gx1 r rz
theorem kxk_Full {K : PySem.W.Frag} {mg : Str → Option Value} (T : Txt K mg) : KBn K T.fd_Full_init ["self", "limit"] 1 ["limit"] gxk gxk := by
  obtain ⟨oc, od, kV, doc, pm, an, cdv, ct, osl, hfd, lk, hcd⟩ := T.F_Full_init.ex
  refine ⟨fun s us ws _ h1 h2 => ?_, fun {vs us zs ws} r rz => ?_⟩
  · rw [hfd]
    match us, ws, h1, h2 with
    | [_], [_], _, _ => exact .of_eq rfl
  · exact rel_gxk r rz
theorem kx0_PartsDiffer {K : PySem.W.Frag} {mg : Str → Option Value} (T : Txt K mg) : KBn K T.fd_PartsDiffer_init ["self"] 1 [] gx0 gx0 := by
  obtain ⟨oc, od, kV, doc, pm, an, cdv, ct, osl, hfd, lk, hcd⟩ := T.F_PartsDiffer_init.ex
  refine ⟨fun s us ws _ h1 h2 => ?_, fun {vs us zs ws} r rz => ?_⟩
  · rw [hfd]
    match us, ws, h1, h2 with
    | [_], [], _, _ => exact .of_eq rfl
  · exact rel_gx0 r rz
theorem kx0_Ended {K : PySem.W.Frag} {mg : Str → Option Value} (T : Txt K mg) : KBn K T.fd_Ended_init ["self"] 1 [] gx0 gx0 := by
  obtain ⟨oc, od, kV, doc, pm, an, cdv, ct, osl, hfd, lk, hcd⟩ := T.F_Ended_init.ex
  refine ⟨fun s us ws _ h1 h2 => ?_, fun {vs us zs ws} r rz => ?_⟩
  · rw [hfd]
    match us, ws, h1, h2 with
    | [_], [], _, _ => exact .of_eq rfl
  · exact rel_gx0 r rz
theorem kxp_UnknownName {K : PySem.W.Frag} {mg : Str → Option Value} (T : Txt K mg) : KBn K T.fd_UnknownName_init ["self", "name"] 2 [] gx1 gx1 := by
  obtain ⟨oc, od, kV, doc, pm, an, cdv, ct, osl, hfd, lk, hcd⟩ := T.F_UnknownName_init.ex
  refine ⟨fun s us ws _ h1 h2 => ?_, fun {vs us zs ws} r rz => ?_⟩
  · rw [hfd]
    match us, ws, h1, h2 with
    | [_, _], [], _, _ => exact .of_eq rfl
  · exact rel_gx1 r rz
theorem kxk_UnknownName {K : PySem.W.Frag} {mg : Str → Option Value} (T : Txt K mg) : KBn K T.fd_UnknownName_init ["self", "name"] 1 ["name"] gxk gxk := by
  obtain ⟨oc, od, kV, doc, pm, an, cdv, ct, osl, hfd, lk, hcd⟩ := T.F_UnknownName_init.ex
  refine ⟨fun s us ws _ h1 h2 => ?_, fun {vs us zs ws} r rz => ?_⟩
  · rw [hfd]
    match us, ws, h1, h2 with
    | [_], [_], _, _ => exact .of_eq rfl
  · exact rel_gxk r rz
theorem kxp_UnknownNumber {K : PySem.W.Frag} {mg : Str → Option Value} (T : Txt K mg) : KBn K T.fd_UnknownNumber_init ["self", "number"] 2 [] gx1 gx1 := by
  obtain ⟨oc, od, kV, doc, pm, an, cdv, ct, osl, hfd, lk, hcd⟩ := T.F_UnknownNumber_init.ex
  refine ⟨fun s us ws _ h1 h2 => ?_, fun {vs us zs ws} r rz => ?_⟩
  · rw [hfd]
    match us, ws, h1, h2 with
    | [_, _], [], _, _ => exact .of_eq rfl
  · exact rel_gx1 r rz
theorem kxk_UnknownNumber {K : PySem.W.Frag} {mg : Str → Option Value} (T : Txt K mg) : KBn K T.fd_UnknownNumber_init ["self", "number"] 1 ["number"] gxk gxk := by
  obtain ⟨oc, od, kV, doc, pm, an, cdv, ct, osl, hfd, lk, hcd⟩ := T.F_UnknownNumber_init.ex
  refine ⟨fun s us ws _ h1 h2 => ?_, fun {vs us zs ws} r rz => ?_⟩
  · rw [hfd]
    match us, ws, h1, h2 with
    | [_], [_], _, _ => exact .of_eq rfl
  · exact rel_gxk r rz
theorem kx0_NothingLeft {K : PySem.W.Frag} {mg : Str → Option Value} (T : Txt K mg) : KBn K T.fd_NothingLeft_init ["self"] 1 [] gx0 gx0 := by
  obtain ⟨oc, od, kV, doc, pm, an, cdv, ct, osl, hfd, lk, hcd⟩ := T.F_NothingLeft_init.ex
  refine ⟨fun s us ws _ h1 h2 => ?_, fun {vs us zs ws} r rz => ?_⟩
  · rw [hfd]
    match us, ws, h1, h2 with
    | [_], [], _, _ => exact .of_eq rfl
  · exact rel_gx0 r rz
/-! ### the draws -/
theorem asg_cut {te : TE} {g : TG} {D : Ends} {σ : L2.St} {H : Hp} (h : ∀ G : V → Hp → Prop, G = (fun x H1 => g x σ H1 D.nx) → te σ H G) : tAsg te g D σ H := h _ rfl
theorem seq_in {t u : TS} {D : Ends} {σ : L2.St} {H : Hp} (h : t { D with nx := u D } σ H) : tSeq t u D σ H := h
theorem pm1 : (0 : Int) < 2147483587 := by decide
theorem pm2 : (0 : Int) < 2147483549 := by decide
theorem seq_cut {t u : TS} {D : Ends} {σ : L2.St} {H : Hp} (h : ∀ G : L2.St → Hp → Prop, G = u D → t { D with nx := G } σ H) : tSeq t u D σ H := h _ rfl
def preDraw : List D → Prop := fun ds => ∃ m : Int, ds = [.int m] ∧ 0 < m ∧ m < 1073741824
def postDraw : List D → D → Prop := fun ds d => ∃ m r : Int, ds = [.int m] ∧ d = .int r ∧ 0 ≤ r ∧ r < m
section
variable {K : PySem.W.Frag} {σ : L2.St} {H : Hp} {b c : Addr} {Q : VK} {i z s t : Int}
theorem bag_ix {xs : List V} {k : Int} {v : V} (h0 : σ[0]? = some (some (.ref b))) (hb : H b = some (.lst xs)) (hv : atI xs k = some v) (q : Q v H) : tOp (rIxL K) (tVar 0) (tC (.int k)) σ H Q :=
  ⟨_, h0, _, xs, k, v, rfl, rfl, SqL.of hb, hv, q⟩
theorem bag_set {xs : List V} {k : Int} {j : Nat} {v : V} {R : L2.St → Hp → Prop} (h0 : σ[0]? = some (some (.ref b))) (hb : H b = some (.lst xs)) (hj : ixN xs.length k = some j) (q : R σ (upd H b (.lst (xs.set j v)))) : gSub (tVar 0) (tC (.int k)) rSetL v σ H R :=
  ⟨_, h0, _, xs, k, j, rfl, rfl, hb, hj, q⟩
end
theorem ok_draw {P : Program} {w : World} {K : PySem.W.Frag} {mg : Str → Option Value} {base : Heap} (T : Txt K mg) : FnOk P w K mg base CX0 2 T.f_draw T.fd_draw ["_law_bag", "_law_many"] (spB K preDraw postDraw) := by
  refine T.F_draw.ok sc_draw (spB_len fun ds ⟨m, e, _⟩ => by rw [e]; rfl) (fun cdv A outer s H vs Q E hr h => ?_)
  refine ⟨_, (pss_cons (ps_if (PW.pt (pw_and (pt_cmpR op_eq (pe_ix (ixL K) (pv 0) pe_int (fun _ _ => rfl)) pe_int (nomark _)) (pw_and1 (pt_cmpR op_lt (pe_ix (ixL K) (pv 0) pe_int (fun _ _ => rfl)) (pe_callB (callLen K) (by rfl) T.b_len (by decide +kernel) (pa_cons (pe_ix (ixL K) (pv 0) pe_int (fun _ _ => rfl)) pa_nil)) (nomark _))))) (pss_cons (ps_set (i := 2) sc_draw.nd rfl (Or.inl rfl) (pe_ix (ixL K) (pe_ix (ixL K) (pv 0) pe_int (fun _ _ => rfl)) (pe_ix (ixL K) (pv 0) pe_int (fun _ _ => rfl)) (fun _ _ => rfl)))
      (pss_cons (ps_asg (pe_op op_add (pe_ix (ixL K) (pv 0) pe_int (fun _ _ => rfl)) pe_int) (pg_sub (pv 0) pe_int set_list))
      (pss_cons (ps_asg (pe_ifExp (pt_cmpR op_ge (pv 2) (pe_op op_pow pe_int pe_int) (nomark _)) (pv 2) pe_int) (pg_sub (pv 0) pe_int set_list))
      (pss_one (ps_asg (pe_op op_mod (pe_callTy call_int1 (by rfl) T.b_int (by decide +kernel) (pa_cons (pe_op op_add (pe_op op_add (pe_op op_mul (pe_ix (ixL K) (pv 0) pe_int (fun _ _ => rfl)) pe_int) (pe_op op_mul (pe_op op_mod (pe_callTy call_int1 (by rfl) T.b_int (by decide +kernel) (pa_cons (pv 2) pa_nil)) pe_int) pe_int)) pe_int) pa_nil)) pe_int) (pg_sub (pv 0) pe_int set_list)))))) pss_nil)
    (pss_cons (ps_if (pt_cmpR op_gt (pe_ix (ixL K) (pv 0) pe_int (fun _ _ => rfl)) pe_int (nomark _)) (pss_cons (ps_set (i := 3) sc_draw.nd rfl (Or.inl rfl) (pe_op op_mod (pe_callTy call_int1 (by rfl) T.b_int (by decide +kernel) (pa_cons (pe_ix (ixL K) (pv 0) pe_int (fun _ _ => rfl)) pa_nil)) (pv 1)))
      (pss_cons (ps_asg (pe_op op_fdiv (pe_ix (ixL K) (pv 0) pe_int (fun _ _ => rfl)) (pv 1)) (pg_sub (pv 0) pe_int set_list))
      (pss_one (ps_ret (pv 3))))) pss_nil)
    (pss_cons (ps_asg (pe_op op_add (pe_ix (ixL K) (pv 0) pe_int (fun _ _ => rfl)) pe_int) (pg_sub (pv 0) pe_int set_list))
    (pss_cons (ps_set (i := 4) sc_draw.nd rfl (Or.inl rfl) (pe_ix (ixL K) (pv 0) pe_int (fun _ _ => rfl)))
    (pss_cons (ps_asg (pe_op op_mod (pe_callTy call_int1 (by rfl) T.b_int (by decide +kernel) (pa_cons (pe_op op_add (pe_op op_add (pe_op op_add (pe_op op_mul (pv 4) (pv 4)) (pe_op op_mul pe_int (pv 4))) (pe_op op_mul pe_int (pe_ix (ixL K) (pv 0) pe_int (fun _ _ => rfl)))) pe_int) pa_nil)) pe_int) (pg_sub (pv 0) pe_int set_list))
    (pss_one (ps_ret (pe_op op_mod (pe_callTy call_int1 (by rfl) T.b_int (by decide +kernel) (pa_cons (pe_op op_add (pe_op op_add (pe_op op_fdiv (pe_ix (ixL K) (pv 0) pe_int (fun _ _ => rfl)) pe_int) (pe_op op_mul (pv 4) pe_int)) (pe_ix (ixL K) (pv 0) pe_int (fun _ _ => rfl))) pa_nil)) (pv 1))))))))), ?_⟩
  obtain ⟨M, b, c, ws, ds, rfl, al, mb, ba, r, ⟨m, rfl, m0, m1⟩, q⟩ := h
  cases r with
  | cons r1 r2 =>
  cases r1
  cases r2
  obtain ⟨ns, i, z, sd, t, hb, nc, hc, hi, hn, z0, s0, s1, t0⟩ := ba
  -- what is behind the first if
  refine seq_cut fun G hG => ?_
  have rest : ∀ (x : Option V) (H1 : Hp) (i' : Nat) (z' s' : Int), H1 b = some (.lst [.ref c, .int (i' : Nat), .int z', .int s', .int t]) → (∀ a, a ≠ b → H1 a = H a) → i' ≤ ns.length → 0 ≤ z' → 0 ≤ s' → s' < 2147483587 → G [some (.ref b), some (.int m), x, none, none] H1 := by
    subst hG
    intro x H1 i' z' s' hb1 hk hi' z0' s0' s1'
    have hfin : ∀ (H2 : Hp) (z2 s2 t2 r : Int), H2 b = some (.lst [.ref c, .int (i' : Nat), .int z2, .int s2, .int t2]) → (∀ a, a ≠ b → H2 a = H a) → 0 ≤ z2 → 0 ≤ s2 → s2 < 2147483587 → 0 ≤ t2 → 0 ≤ r → r < m → Q (.int r) H2 := by
      intro H2 z2 s2 t2 r hb2 hk2 a1 a2 a3 a4 a5 a6
      refine q (.int r) (.int r) H2 ⟨m, r, rfl, rfl, a5, a6⟩ (fun a o n h => ?_) ⟨ns, i', z2, s2, t2, hb2, nc, by rw [hk2 c nc]; exact hc, hi', hn, a1, a2, a3, a4⟩ (.int r)
      rw [hk2 a fun e => n (by rw [e])]
      exact h
    refine bag_ix (k := 2) rfl hb1 rfl ⟨_, _, rfl, rfl, _, rfl, ?_⟩
    refine ite2 (fun hz => ?_) (fun hz => ?_)
    · have hz' : 0 < z' := of_decide_eq_true hz
      refine bag_ix rfl hb1 rfl (.inl ⟨_, rfl, _, rfl, _, _, rfl, rfl, m0, ?_⟩)
      refine bag_ix rfl hb1 rfl ⟨_, rfl, _, _, rfl, rfl, ⟨m0, m1⟩, ?_⟩
      refine bag_set rfl hb1 rfl ?_
      refine ⟨_, rfl, ?_⟩
      refine hfin _ (z' / m) s' t (z' % m) upd_same (fun a n => by rw [upd_ne n]; exact hk a n) (Int.ediv_nonneg z0' (Int.le_of_lt m0)) s0' s1' t0 (Int.emod_nonneg _ (Int.ne_of_gt m0)) (Int.emod_lt_of_pos _ m0)
    · refine bag_ix rfl hb1 rfl ⟨_, _, rfl, rfl, ?_⟩
      refine bag_set rfl hb1 rfl ?_
      refine bag_ix rfl upd_same rfl ?_
      refine ⟨_, rfl, _, rfl, _, _, rfl, rfl, .inl ⟨by omega, by omega⟩, ?_⟩
      refine ⟨_, rfl, _, _, rfl, rfl, .inl ⟨by decide, by decide⟩, _, _, rfl, rfl, ?_⟩
      refine bag_ix rfl upd_same rfl ⟨_, _, rfl, rfl, .inl ⟨by decide, by decide⟩, _, _, rfl, rfl, ?_⟩
      refine ⟨_, _, rfl, rfl, .inl ⟨_, rfl, _, _, rfl, rfl, pm1, ?_⟩⟩
      refine bag_set rfl upd_same rfl ?_
      refine bag_ix rfl upd_same rfl ⟨_, _, rfl, rfl, ⟨by decide, by decide⟩, ?_⟩
      refine ⟨_, rfl, _, _, rfl, rfl, .inr ⟨by decide, by decide⟩, _, _, rfl, rfl, ?_⟩
      refine bag_ix rfl upd_same rfl ⟨_, _, rfl, rfl, .inl ⟨_, rfl, _, rfl, _, _, rfl, rfl, m0, ?_⟩⟩
      refine hfin _ z' _ (t + 1) _ upd_same (fun a n => by rw [upd_ne n, upd_ne n]; exact hk a n) z0' (Int.emod_nonneg _ (by decide)) (Int.emod_lt_of_pos _ pm1) (by omega) (Int.emod_nonneg _ (Int.ne_of_gt m0)) (Int.emod_lt_of_pos _ m0)
  refine bag_ix rfl hb rfl ⟨rfl, _, rfl, ?_⟩
  refine ite2 (fun hz => ?_) (fun hz => ?_)
  · refine bag_ix rfl hb rfl ?_
    refine bag_ix rfl hb rfl ⟨_, ns.length, rfl, .inl ⟨_, SqL.of hc, by rw [List.length_map]⟩, _, _, rfl, rfl, _, rfl, ?_⟩
    refine ite2 (fun hl => ?_) (fun hl => rest none H i z sd hb (fun a _ => rfl) hi z0 s0 s1)
    have hl' : i < ns.length := by
      have := of_decide_eq_true hl
      omega
    have hat : atI (ns.map V.int) (i : Int) = some (.int (ns[i])) := atI_nat (by simp [hl'])
    refine bag_ix rfl hb rfl ?_
    refine bag_ix rfl hb rfl ⟨_, _, _, _, rfl, rfl, SqL.of hc, hat, ?_⟩
    generalize ns[i] = cell
    refine bag_ix rfl hb rfl ⟨_, _, rfl, rfl, ?_⟩
    refine bag_set rfl hb rfl ?_
    dsimp only
    refine seq_in ?_
    refine asg_cut fun G2 hG2 => ?_
    have go : ∀ zz : Int, 0 ≤ zz → G2 (.int zz) (upd H b (.lst [.ref c, .int ((i : Int) + 1), .int z, .int sd, .int t])) := by
      subst hG2
      intro zz hzz
      refine bag_set rfl upd_same rfl ?_
      refine bag_ix rfl upd_same rfl ⟨_, _, rfl, rfl, .inr ⟨by decide, by decide⟩, ?_⟩
      refine ⟨_, rfl, .inl ⟨_, rfl, _, _, rfl, rfl, pm2, _, _, rfl, rfl, .inr ⟨by decide, by decide⟩, _, _, rfl, rfl, _, _, rfl, rfl, .inl ⟨_, rfl, _, _, rfl, rfl, pm1, ?_⟩⟩⟩
      refine bag_set rfl upd_same rfl ?_
      exact rest _ _ (i + 1) zz _ upd_same (fun a n => by rw [upd_ne n, upd_ne n, upd_ne n]) hl' hzz (Int.emod_nonneg _ (by decide)) (Int.emod_lt_of_pos _ pm1)
    refine ⟨_, rfl, _, _, rfl, rfl, ⟨by decide, by decide, by decide⟩, _, _, rfl, rfl, _, rfl, ?_⟩
    refine ite2 (fun hz => ?_) (fun hz => ?_)
    · refine ⟨_, rfl, ?_⟩
      refine go cell ?_
      have : (10 : Int) ^ Int.toNat 18 ≤ cell := of_decide_eq_true hz
      exact Int.le_trans (by decide) this
    · exact go 0 (Int.le_refl _)
  · exact rest none H i z sd hb (fun a _ => rfl) hi z0 s0 s1
local macro_rules | `(tactic| walk_at "ev") => `(tactic| first
  | ((with_reducible refine' ev_var ?h ?_); (case h => rfl))
  | with_reducible refine ev_int ?_
  | with_reducible refine ev_bl ?_
  | with_reducible refine ev_str ?_
  | with_reducible refine ev_non ?_
  | with_reducible refine ev_ty ?_
  | with_reducible refine ev_op ?_
  | with_reducible refine ev_un ?_
  | with_reducible refine ev_chain ?_
  | with_reducible refine ev_if ?_
  | with_reducible refine ev_and ?_
  | with_reducible refine ev_or ?_
  | with_reducible refine ev_not ?_
  | with_reducible refine ev_lst ?_
  | with_reducible refine ev_tup ?_
  | with_reducible refine ea_nil ?_
  | with_reducible refine ea_cons ?_
  | with_reducible refine ev_cb ?_
  | with_reducible refine et_test ?_
  | with_reducible refine et_B ?_
  | with_reducible refine et_and ?_
  | with_reducible refine et_or ?_
  | with_reducible refine et_not ?_
  | with_reducible refine et_yes ?_
  | with_reducible refine eo_none ?_
  | with_reducible refine eo_some ?_
  | with_reducible refine ev_slS ?_
  | with_reducible refine od_int ?_
  | with_reducible refine od_bl ?_
  | with_reducible refine od_eq_int ?_
  | with_reducible refine od_ne_int ?_
  | with_reducible refine od_eq_bl ?_
  | with_reducible refine od_ne_bl ?_
  | with_reducible refine od_eq_str ?_
  | with_reducible refine od_ne_str ?_
  | with_reducible refine od_leS ?_
  | with_reducible refine ud_isN ?_
  | with_reducible refine ud_notN ?_
  | with_reducible refine do_seq ?_
  | with_reducible refine do_set ?_
  | with_reducible refine do_ret ?_
  | with_reducible refine do_retN ?_
  | with_reducible refine do_if ?_
  | with_reducible refine do_next ?_
  | with_reducible refine tg_name ?_
  | with_reducible refine tgs_nil ?_
  | with_reducible refine tgs_cons ?_)
/-! ### one of some things -/
def atD (x : D) (i : Int) : Option D := match x with
  | .lst xs => atI xs i | .tup xs => atI xs i | .str z => (atI z.cps.toList i).map fun c => .str ⟨#[c]⟩ | _ => none
theorem od_ix {K : PySem.W.Frag} {P : D → Prop} {x d : D} {i : Int} (hz : ∀ z, x = .str z → z.length ≤ 100000) (h : atD x i = some d) (p : P d) : OpD K (rIx K) x (.int i) P := fun M H v w Q al r1 r2 q => by
  cases x with
  | lst xs => exact .inl (od_ixL h p M H v w Q al r1 r2 q)
  | tup xs => exact .inr (.inl (od_ixT h p M H v w Q al r1 r2 q))
  | str z =>
    cases e : atI z.cps.toList i with
    | none =>
      have h' : (atI z.cps.toList i).map (fun c => D.str ⟨#[c]⟩) = some d := h
      rw [e] at h'
      cases h'
    | some c =>
      have h' : (atI z.cps.toList i).map (fun c => D.str ⟨#[c]⟩) = some d := h
      rw [e] at h'
      cases h'
      exact .inr (.inr (od_ixS (hz z rfl) e p M H v w Q al r1 r2 q))
  | _ => cases h
theorem atD_some {x : D} {n : Nat} {i : Int} (h : lenD x = some n) (h0 : 0 ≤ i) (h1 : i < n) : ∃ d, atD x i = some d := by
  cases x with
  | lst xs =>
    cases h
    exact ⟨_, atI_nat' h0 (by omega)⟩
  | tup xs =>
    cases h
    exact ⟨_, atI_nat' h0 (by omega)⟩
  | str z =>
    cases h
    have h2 : i.toNat < z.cps.toList.length := by
      have : z.cps.toList.length = z.length := by simp [Str.length]
      omega
    refine ⟨.str ⟨#[z.cps.toList[i.toNat]]⟩, ?_⟩
    show (atI z.cps.toList i).map _ = some _
    rw [atI_nat' h0 h2]
    rfl
  | _ => cases h
def preOf : List D → Prop := fun ds => ∃ x n, ds = [x] ∧ lenD x = some n ∧ 0 < n ∧ n ≤ 100000
def postOf : List D → D → Prop := fun ds d => ∃ x n i, ds = [x] ∧ lenD x = some n ∧ 0 ≤ i ∧ i < (n : Int) ∧ atD x i = some d
theorem ok_of {P : Program} {w : World} {K : PySem.W.Frag} {mg : Str → Option Value} {base : Heap} (T : Txt K mg) : FnOk P w K mg base CX0 4 T.f_of T.fd_of ["_law_bag", "_law_things"] (spB K preOf postOf) := by
  refine T.F_of.ok sc_of (spB_len fun ds ⟨x, n, e, _⟩ => by rw [e]; rfl) (fun cdv A outer s H vs Q E hr h => ?_)
  refine ⟨_, (pss_one (ps_ret (pe_ix (ixA K) (pv 1) (pe_call (ok_draw T) (hr.mono (by decide)) rfl T.g_draw T.k_draw T.bd_draw .nil pass0 (pa_cons (pv 0) (pa_cons (pe_callB (callLen K) (by rfl) T.b_len (by decide +kernel) (pa_cons (pv 1) pa_nil)) pa_nil))) (fun _ _ => rfl)))), ?_⟩
  refine enterB h fun M b c ds pre _ => ?_
  obtain ⟨x, n, rfl, hl, n0, n1⟩ := pre
  refine do_ret ?_
  refine ev_op ?_
  refine ev_var rfl ?_
  refine ev_callB rfl rfl ?_
  refine ea_cons (ev_cb (ea_cons (ev_var rfl (ea_nil (cd_lenK hl n1 ?_)))))
  refine ea_nil ⟨⟨n, rfl, by omega, by omega⟩, fun d hd => ?_⟩
  obtain ⟨m, r, e, rfl, r0, r1⟩ := hd
  cases e
  obtain ⟨d, hd⟩ := atD_some hl r0 r1
  refine od_ix (fun z e => ?_) hd ⟨x, n, r, rfl, hl, r0, r1, hd⟩
  subst e
  cases hl
  exact n1

/-! ### equal and of the same kinds -/
mutual
def likeD : D → D → Bool
  | .lst xs, .lst ys => likeL xs ys
  | .tup xs, .tup ys => likeL xs ys
  | .non, .non => true
  | .bl a, .bl b => a == b
  | .int a, .int b => a == b
  | .str a, .str b => decide (a = b)
  | _, _ => false
def likeL : List D → List D → Bool
  | [], [] => true
  | x :: xs, y :: ys => likeD x y && likeL xs ys
  | _, _ => false
end
mutual
def dep : D → Nat
  | .lst xs => depL xs + 1
  | .tup xs => depL xs + 1
  | _ => 0
def depL : List D → Nat
  | [] => 0
  | x :: xs => max (dep x) (depL xs)
end
mutual
def plD : D → Bool
  | .lst xs => decide (xs.length ≤ 10000) && plL xs
  | .tup xs => decide (xs.length ≤ 10000) && plL xs
  | .non => true | .bl _ => true | .int _ => true | .str _ => true
  | _ => false
def plL : List D → Bool
  | [] => true
  | x :: xs => plD x && plL xs
end
mutual
theorem likeD_self : ∀ d : D, plD d = true → likeD d d = true
  | .lst xs, h => by
    simp only [plD, Bool.and_eq_true] at h
    simp only [likeD]
    exact likeL_self xs h.2
  | .tup xs, h => by
    simp only [plD, Bool.and_eq_true] at h
    simp only [likeD]
    exact likeL_self xs h.2
  | .non, _ => by simp only [likeD]
  | .bl _, _ => by simp only [likeD, beq_self_eq_true]
  | .int _, _ => by simp only [likeD, beq_self_eq_true]
  | .str _, _ => by simp only [likeD, decide_true]
  | .dic _, h => by simp only [plD, reduceCtorEq] at h
  | .ins _ _, h => by simp only [plD, reduceCtorEq] at h
  | .ty _, h => by simp only [plD, reduceCtorEq] at h
  | .adr _, h => by simp only [plD, reduceCtorEq] at h
  | .exc _ _, h => by simp only [plD, reduceCtorEq] at h
theorem likeL_self : ∀ ds : List D, plL ds = true → likeL ds ds = true
  | [], _ => by simp only [likeL]
  | d :: ds, h => by
    simp only [plL, Bool.and_eq_true] at h
    simp only [likeL, likeD_self d h.1, likeL_self ds h.2, Bool.and_self]
end
theorem likeL_len : ∀ {xs ys : List D}, likeL xs ys = true → xs.length = ys.length
  | [], [], _ => rfl
  | _ :: _, [], h => by simp only [likeL, reduceCtorEq] at h
  | [], _ :: _, h => by simp only [likeL, reduceCtorEq] at h
  | x :: xs, y :: ys, h => by
    simp only [likeL, Bool.and_eq_true] at h
    simp only [List.length_cons, likeL_len h.2]
theorem plL_get : ∀ {xs : List D} {i : Nat} {x : D}, plL xs = true → xs[i]? = some x → plD x = true
  | [], _, _, _, h => by simp at h
  | y :: ys, 0, x, h, e => by
    simp only [plL, Bool.and_eq_true] at h
    simp at e
    subst e
    exact h.1
  | y :: ys, i + 1, x, h, e => by
    simp only [plL, Bool.and_eq_true] at h
    exact plL_get (i := i) h.2 (by simpa using e)
theorem depL_get : ∀ {xs : List D} {i : Nat} {x : D}, xs[i]? = some x → dep x ≤ depL xs
  | [], _, _, h => by simp at h
  | y :: ys, 0, x, e => by
    simp at e
    subst e
    simp only [depL]
    omega
  | y :: ys, i + 1, x, e => by
    have := depL_get (xs := ys) (i := i) (x := x) (by simpa using e)
    simp only [depL]
    omega
theorem likeL_zip : ∀ {xs ys : List D}, xs.length = ys.length → likeL xs ys = ((xs.zip ys).map fun p => likeD p.1 p.2).all id
  | [], [], _ => by simp [likeL]
  | _ :: _, [], h => by simp at h
  | [], _ :: _, h => by simp at h
  | x :: xs, y :: ys, h => by
    simp only [likeL, List.zip_cons_cons, List.map_cons, List.all_cons, id]
    rw [likeL_zip (by simpa using h)]
def preLike (n : Nat) : List D → Prop := fun ds => ∃ x y, ds = [x, y] ∧ plD x = true ∧ plD y = true ∧ dep y ≤ n
def postLike : List D → D → Prop := fun ds d => ∃ x y, ds = [x, y] ∧ d = .bl (likeD x y)
theorem ty_of {d : D} (h : plD d = true) : ∃ a, tyName d = some a := by
  cases d <;> first | exact ⟨_, rfl⟩ | (simp only [plD, reduceCtorEq] at h)
/-- isinstance(x, (list, tuple)), the pair made on the way -/
theorem ev_isiT {F : Fm} {δ : List SD} {te : TE} {ta : TA} {P : D → Prop} (h : Ev F te δ fun x => EvA F ta δ fun cs => cs = [.ty "list", .ty "tuple"] ∧ ∃ a, tyName x = some a ∧ P (.bl (isTy a "list" || isTy a "tuple"))) :
    Ev F (tCB (rIsiT F.K) (tCons te (tCons (tTup ta) tNil))) δ P := fun M σ H Q c q => by
  refine h M σ H _ c fun v x H1 p1 c1 e1 r1 => ?_
  refine p1 M σ H1 _ c1 fun vs cs H2 p2 c2 e2 r2 => ?_
  obtain ⟨rfl, a, ha, p⟩ := p2
  cases r2 with
  | cons q1 r3 =>
  cases r3 with
  | cons q2 r4 =>
  cases r4
  cases q1
  cases q2
  refine ⟨sz_of (by decide), fun T hT => ?_⟩
  have s := same_new (o := HO.tup [V.ty "list", V.ty "tuple"]) hT
  have tx : TyX F.K (upd H2 T (.tup [V.ty "list", V.ty "tuple"])) v (.type a) := tyX_of ((r1.mono (hd_step c1 e2)).mono ((same_hd M H2).trans s)) ha
  refine ⟨v, T, _, .type a, [.type "list", .type "tuple"], isTy a "list" || isTy a "tuple", rfl, upd_same, .cons (.ty _) (.cons (.ty _) .nil), tx, ?_, q _ _ _ p (c2.same s) ((e1.trans e2).trans (StepB.of s)) (.bl _)⟩
  have hm := tyName_mem ha
  refine kitAny_cons (kit_ty (kit_isTy hm (by decide))) (fun h1 => ?_) (fun h1 => by rw [h1]; rfl)
  rw [h1, Bool.false_or]
  refine kitAny_cons (kit_ty (kit_isTy hm (by decide))) (fun h2 => ?_) (fun h2 => h2)
  rw [h2]
  exact kitAny_nil

def preL : Nat → List D → Prop
  | 0 => fun _ => False
  | n + 1 => preLike n
theorem isTy_of {d : D} {a : String} (h : tyName d = some a) (n : String) : isTy a n = isD d n := by unfold isD; rw [h]
theorem pairs_get {xs ys : List D} {i : Nat} {d : D} (h : (pairs xs ys)[i]? = some d) : ∃ x y, xs[i]? = some x ∧ ys[i]? = some y ∧ d = .tup [x, y] := by
  unfold pairs at h
  rw [List.getElem?_map] at h
  cases e : (xs.zip ys)[i]? with
  | none => rw [e] at h; cases h
  | some p =>
    rw [e] at h
    obtain ⟨h1, h2⟩ := List.getElem?_zip_eq_some.mp e
    exact ⟨p.1, p.2, h1, h2, (Option.some.inj h).symm⟩
theorem ok_like_ {P : Program} {w : World} {K : PySem.W.Frag} {mg : Str → Option Value} {base : Heap} (T : Txt K mg) (n : Nat) (G : FnOk P w K mg base CX0 n T.f_like T.fd_like ["_law_found", "_law_due"] (spD K (preL n) postLike)) :
    FnOk P w K mg base CX0 (n + 1) T.f_like T.fd_like ["_law_found", "_law_due"] (spD K (preLike n) postLike) := by
  refine T.F_like.ok sc_like (spD_len fun ds ⟨x, y, e, _⟩ => by rw [e]; rfl) (fun cdv A outer s H vs Q E hr h => ?_)
  refine ⟨_, (pss_cons (ps_if (pt_val (pe_callB (callIsiT K) (by rfl) T.b_isinstance (by decide +kernel) (pa_cons (pv 1) (pa_cons (pe_tup (pa_cons (pe_bltn (v := .ty "list") (by rfl) T.b_list (by decide +kernel) rfl) (pa_cons (pe_bltn (v := .ty "tuple") (by rfl) T.b_tuple (by decide +kernel) rfl) pa_nil))) pa_nil)))) (pss_cons (ps_if (PW.pt (pw_or (pt_cmpR op_ne (pe_callB (callIsi K) (by rfl) T.b_isinstance (by decide +kernel) (pa_cons (pv 0) (pa_cons (pe_bltn (v := .ty "list") (by rfl) T.b_list (by decide +kernel) rfl) pa_nil))) (pe_callB (callIsi K) (by rfl) T.b_isinstance (by decide +kernel) (pa_cons (pv 1) (pa_cons (pe_bltn (v := .ty "list") (by rfl) T.b_list (by decide +kernel) rfl) pa_nil))) (nomark _)) (pw_or1 (pt_cmpR op_ne (pe_callB (callIsi K) (by rfl) T.b_isinstance (by decide +kernel) (pa_cons (pv 0) (pa_cons (pe_bltn (v := .ty "tuple") (by rfl) T.b_tuple (by decide +kernel) rfl) pa_nil))) (pe_callB (callIsi K) (by rfl) T.b_isinstance (by decide +kernel) (pa_cons (pv 1) (pa_cons (pe_bltn (v := .ty "tuple") (by rfl) T.b_tuple (by decide +kernel) rfl) pa_nil))) (nomark _))))) (pss_one (ps_ret pe_bl)) pss_nil)
      (pss_one (ps_ret (pe_and (pe_cmpR op_eq (pe_callB (callLen K) (by rfl) T.b_len (by decide +kernel) (pa_cons (pv 0) pa_nil)) (pe_callB (callLen K) (by rfl) T.b_len (by decide +kernel) (pa_cons (pv 1) pa_nil)) (nomark _)) (pe_one (pe_callB (callAll K) (by rfl) T.b_all (by decide +kernel) (pa_cons (pe_lc (own := [("_law_one", 2), ("_law_other", 3)]) rfl sc_like.nd (pi_zipA (by rfl) T.b_zip (pa_cons (pv 0) (pa_cons (pv 1) pa_nil))) (blkOk_by (N := N_like) (sc := defScope s_like) (by decide +kernel)) (fun _ _ _ _ _ => (pgTup K (n := 2) rfl (pgs_cons (pg_name (i := 2) sc_like.nd rfl (Or.inl rfl)) (pgs_cons (pg_name (i := 3) sc_like.nd rfl (Or.inl rfl)) pgs_nil)))) (fun _ _ _ _ _ => pts_nil) (fun _ _ _ _ _ => (pe_call G hr rfl T.g_like T.k_like T.bd_like .nil pass0 (pa_cons (pv 2) (pa_cons (pv 3) pa_nil))))) pa_nil))))))) pss_nil)
    (pss_cons (ps_if (PW.pt (pw_or (pt_cmpR op_isN (pv 1) pe_non (nomark _)) (pw_or1 (pt_cmpR op_isN (pv 0) pe_non (nomark _))))) (pss_one (ps_ret (pe_and (pe_cmpR op_isN (pv 1) pe_non (nomark _)) (pe_one (pe_cmpR op_isN (pv 0) pe_non (nomark _)))))) pss_nil)
    (pss_cons (ps_if (PW.pt (pw_or (pt_cmpR op_ne (pe_callB (callIsi K) (by rfl) T.b_isinstance (by decide +kernel) (pa_cons (pv 0) (pa_cons (pe_bltn (v := .ty "bool") (by rfl) T.b_bool (by decide +kernel) rfl) pa_nil))) (pe_callB (callIsi K) (by rfl) T.b_isinstance (by decide +kernel) (pa_cons (pv 1) (pa_cons (pe_bltn (v := .ty "bool") (by rfl) T.b_bool (by decide +kernel) rfl) pa_nil))) (nomark _)) (pw_or1 (pt_cmpR op_ne (pe_callB (callIsi K) (by rfl) T.b_isinstance (by decide +kernel) (pa_cons (pv 0) (pa_cons (pe_bltn (v := .ty "int") (by rfl) T.b_int (by decide +kernel) rfl) pa_nil))) (pe_callB (callIsi K) (by rfl) T.b_isinstance (by decide +kernel) (pa_cons (pv 1) (pa_cons (pe_bltn (v := .ty "int") (by rfl) T.b_int (by decide +kernel) rfl) pa_nil))) (nomark _))))) (pss_one (ps_ret pe_bl)) pss_nil)
    (pss_one (ps_ret (pe_and (pe_cmpR op_eq (pe_callB (callIsi K) (by rfl) T.b_isinstance (by decide +kernel) (pa_cons (pv 0) (pa_cons (pe_bltn (v := .ty "str") (by rfl) T.b_str (by decide +kernel) rfl) pa_nil))) (pe_callB (callIsi K) (by rfl) T.b_isinstance (by decide +kernel) (pa_cons (pv 1) (pa_cons (pe_bltn (v := .ty "str") (by rfl) T.b_str (by decide +kernel) rfl) pa_nil))) (nomark _)) (pe_one (pe_cmpR op_eq (pv 0) (pv 1) (nomark _))))))))), ?_⟩
  refine enterD h fun M ds pre _ => ?_
  obtain ⟨x, y, rfl, px, py, hd⟩ := pre
  obtain ⟨a, ha⟩ := ty_of px
  obtain ⟨b, hb⟩ := ty_of py
  have isx : ∀ {n : String} {P : D → Prop}, n ∈ tyAsk → P (.bl (isD x n)) → CallD K (rIsi K) [x, .ty n] P := fun hn p => cd_isi ha hn p
  have isy : ∀ {n : String} {P : D → Prop}, n ∈ tyAsk → P (.bl (isD y n)) → CallD K (rIsi K) [y, .ty n] P := fun hn p => cd_isi hb hn p
  refine do_seq (do_if (et_B (ev_isiT (ev_var rfl ?_))))
  refine ea_cons (ev_ty (ea_cons (ev_ty (ea_nil ⟨rfl, b, hb, _, rfl, fun hl => ?_, fun hl => ?_⟩))))
  · -- a list or a tuple is due
    have hdy : isD y "list" = true ∨ isD y "tuple" = true := by
      rw [isTy_of hb, isTy_of hb, Bool.or_eq_true] at hl
      exact hl
    refine do_seq (do_if (et_or (et_test ?_)))
    repeat (first | walk_at "ev" | refine isx (by decide) ?_ | refine isy (by decide) ?_)
    refine ⟨_, rfl, fun h1 => et_test ?_, fun h1 => ⟨fun _ => ?_, fun h => nomatch h⟩⟩
    · repeat (first | walk_at "ev" | refine isx (by decide) ?_ | refine isy (by decide) ?_)
      refine ⟨_, rfl, fun h2 => ?_, fun h2 => ?_⟩
      · refine do_ret (ev_bl ⟨x, y, rfl, ?_⟩)
        cases x <;> cases y <;> first | rfl | (simp [isD, tyName, isTy] at h1 h2 hdy)
      · refine do_next ?_
        obtain ⟨xs, ys, hxy⟩ : ∃ xs ys, (x = .lst xs ∧ y = .lst ys) ∨ (x = .tup xs ∧ y = .tup ys) := by
          cases x <;> cases y <;> first | exact ⟨_, _, .inl ⟨rfl, rfl⟩⟩ | exact ⟨_, _, .inr ⟨rfl, rfl⟩⟩ | (simp [isD, tyName, isTy] at h1 h2 hdy)
        have hlx : lenD x = some xs.length := by rcases hxy with ⟨rfl, _⟩ | ⟨rfl, _⟩ <;> rfl
        have hly : lenD y = some ys.length := by rcases hxy with ⟨_, rfl⟩ | ⟨_, rfl⟩ <;> rfl
        have pxs : xs.length ≤ 10000 ∧ plL xs = true := by
          rcases hxy with ⟨rfl, _⟩ | ⟨rfl, _⟩ <;> (simp only [plD, Bool.and_eq_true, decide_eq_true_eq] at px; exact px)
        have pys : ys.length ≤ 10000 ∧ plL ys = true := by
          rcases hxy with ⟨_, rfl⟩ | ⟨_, rfl⟩ <;> (simp only [plD, Bool.and_eq_true, decide_eq_true_eq] at py; exact py)
        have hdl : depL ys + 1 ≤ n := by
          rcases hxy with ⟨_, rfl⟩ | ⟨_, rfl⟩ <;> (simp only [dep] at hd; exact hd)
        have hlk : likeD x y = likeL xs ys := by rcases hxy with ⟨rfl, rfl⟩ | ⟨rfl, rfl⟩ <;> simp only [likeD]
        obtain ⟨k, rfl⟩ : ∃ k, n = k + 1 := ⟨n - 1, by omega⟩
        refine do_ret ?_
        repeat (first | walk_at "ev" | refine cd_lenK hlx (by omega) ?_ | refine cd_lenK hly (by omega) ?_)
        refine ⟨_, rfl, fun h3 => ?_, fun h3 => ⟨x, y, rfl, ?_⟩⟩
        · have hxl : xs.length = ys.length := by
            have := of_decide_eq_true h3
            omega
          refine ev_cb (ea_cons (EvN.ev ?_))
          refine en_lc (js := [2, 3]) (PX := fun l => l = pairs xs ys) (it_zipA ?_) (fun l e => ?_) (by decide) (fun l i acc => acc = (((xs.zip ys).take i).map fun p => D.bl (likeD p.1 p.2))) (fun l e => rfl) ?_ ?_
          · refine ea_cons (ev_var rfl (ea_cons (ev_var rfl (ea_nil ⟨xs, ys, ?_, rfl⟩))))
            rcases hxy with ⟨rfl, rfl⟩ | ⟨rfl, rfl⟩
            · exact .inl rfl
            · exact .inr rfl
          · subst e
            unfold pairs
            rw [List.length_map, List.length_zip]
            omega
          · rintro l i d acc rfl hi rfl
            obtain ⟨u, v, hu, hv, rfl⟩ := pairs_get hi
            refine tg_tup rfl ?_
            refine tgs_cons (tg_name (tgs_cons (tg_name (tgs_nil ?_))))
            refine et_yes ⟨fun _ => ?_, fun h => nomatch h⟩
            refine ev_call ?_
            refine ea_cons (ev_var rfl (ea_cons (ev_var rfl (ea_nil ⟨⟨u, v, rfl, plL_get pxs.2 hu, plL_get pys.2 hv, ?_⟩, fun d hd => ?_⟩))))
            · have := depL_get hv
              omega
            · obtain ⟨u', v', e, rfl⟩ := hd
              cases e
              have hz : (xs.zip ys)[i]? = some (u, v) := List.getElem?_zip_eq_some.mpr ⟨hu, hv⟩
              rw [List.take_succ, hz]
              simp
          · rintro l ds rfl rfl
            have hfull : ((xs.zip ys).take (pairs xs ys).length) = xs.zip ys := by
              unfold pairs
              rw [List.length_map, List.take_length]
            rw [hfull]
            have : ((xs.zip ys).map fun p => D.bl (likeD p.1 p.2)) = blD ((xs.zip ys).map fun p => likeD p.1 p.2) := by unfold blD; rw [List.map_map]; rfl
            rw [this]
            refine ea_nil (cd_all ⟨x, y, rfl, ?_⟩)
            rw [hlk, likeL_zip hxl]
        · have : likeL xs ys = false := by
            cases e : likeL xs ys with
            | false => rfl
            | true =>
              have := likeL_len e
              rw [this] at h3
              simp at h3
          rw [hlk, this]
    · refine do_ret (ev_bl ⟨x, y, rfl, ?_⟩)
      cases x <;> cases y <;> first | rfl | (simp [isD, tyName, isTy] at h1 hdy)
  · -- a scalar is due
    refine do_next ?_
    have hny : isD y "list" = false ∧ isD y "tuple" = false := by
      rw [isTy_of hb, isTy_of hb, Bool.or_eq_false_iff] at hl
      exact hl
    refine do_seq (do_if (et_or (et_test ?_)))
    repeat walk_at "ev"
    refine ⟨_, rfl, fun h1 => et_test ?_, fun h1 => ⟨fun _ => ?_, fun h => nomatch h⟩⟩
    · repeat walk_at "ev"
      refine ⟨_, rfl, fun h2 => ?_, fun h2 => ?_⟩
      · refine do_ret ?_
        repeat walk_at "ev"
        refine ⟨_, rfl, fun h3 => ?_, fun _ => ⟨x, y, rfl, ?_⟩⟩
        · rw [h1] at h3
          cases h3
        · cases x <;> cases y <;> first | rfl | (simp [isNon, isD, tyName, isTy] at h1 h2 hny)
      · refine do_next ?_
        refine do_seq (do_if (et_or (et_test ?_)))
        repeat (first | walk_at "ev" | refine isx (by decide) ?_ | refine isy (by decide) ?_)
        refine ⟨_, rfl, fun h3 => et_test ?_, fun h3 => ⟨fun _ => ?_, fun h => nomatch h⟩⟩
        · repeat (first | walk_at "ev" | refine isx (by decide) ?_ | refine isy (by decide) ?_)
          refine ⟨_, rfl, fun h4 => ?_, fun h4 => ?_⟩
          · refine do_ret (ev_bl ⟨x, y, rfl, ?_⟩)
            cases x <;> cases y <;> first | rfl | (simp [isNon, isD, tyName, isTy] at h1 h2 h3 h4 hny)
          · refine do_next (do_ret ?_)
            refine ev_and ?_
            repeat (first | walk_at "ev" | refine isx (by decide) ?_ | refine isy (by decide) ?_)
            refine ⟨_, rfl, fun h5 => ?_, fun h5 => ⟨x, y, rfl, ?_⟩⟩
            · refine ev_op (ev_var rfl (ev_var rfl ?_))
              cases x <;> cases y <;> first
                | (simp [isNon, isD, tyName, isTy] at h1 h2 h3 h4 h5 hny; done)
                | exact od_eq_bl ⟨_, _, rfl, by simp only [likeD, Bool.beq_eq_decide_eq]⟩
                | exact od_eq_int ⟨_, _, rfl, by simp only [likeD, Bool.beq_eq_decide_eq]⟩
                | exact od_eq_str ⟨_, _, rfl, by simp only [likeD]⟩
                | (simp [plD] at px; done)
                | (simp [plD] at py; done)
            · cases x <;> cases y <;> first | rfl | (simp [isNon, isD, tyName, isTy] at h1 h2 h3 h4 h5 hny)
        · refine do_ret (ev_bl ⟨x, y, rfl, ?_⟩)
          cases x <;> cases y <;> first | rfl | (simp [isNon, isD, tyName, isTy] at h1 h2 h3 hny)
    · refine do_ret ?_
      repeat walk_at "ev"
      refine ⟨_, rfl, fun h3 => ?_, fun h3 => ⟨x, y, rfl, ?_⟩⟩
      · repeat walk_at "ev"
        refine ⟨x, y, rfl, ?_⟩
        cases x <;> cases y <;> first | rfl | (simp [isNon] at h1)
      · rw [h1] at h3
        cases h3
theorem ok_like {P : Program} {w : World} {K : PySem.W.Frag} {mg : Str → Option Value} {base : Heap} (T : Txt K mg) : ∀ n, FnOk P w K mg base CX0 (n + 1) T.f_like T.fd_like ["_law_found", "_law_due"] (spD K (preLike n) postLike) := by
  intro n
  induction n with
  | zero => exact ok_like_ T 0 ⟨fun vs H Q E ⟨_, _, _, _, p, _⟩ => p.elim, fun A outer s H args us vs Q E _ _ _ _ ⟨_, _, _, _, p, _⟩ => p.elim⟩
  | succ n ih => exact ok_like_ T (n + 1) ih
/-! ### the bag is made -/
def spOpen (K : PySem.W.Frag) : Sp := fun vs H Q _ => ∃ (a : Addr) (ns : List Int), vs = [.ref a] ∧ SqL K H a (ns.map V.int) ∧ ns.length ≤ 63 ∧ ∀ b c H', H b = none → Same H H' → BagAt H' b c → Q (.ref b) H'
theorem cut63 {ns : List Int} (h : ns.length ≤ 63) : cutV (ns.map V.int) none (some 63) = ns.map V.int := by
  unfold cutV
  have e1 : HT.sIx (ns.map V.int).length 0 none = 0 := rfl
  have e2 : HT.sIx (ns.map V.int).length (ns.map V.int).length (some 63) = ns.length := by
    rw [List.length_map]
    have := HT.sIx_nat ns.length ns.length 63
    rw [show ((63 : Nat) : Int) = 63 from rfl] at this
    rw [this]
    omega
  rw [e1, e2, List.drop_zero, Nat.sub_zero]
  exact List.take_of_length_le (by rw [List.length_map]; exact Nat.le_refl _)
theorem ok_open {P : Program} {w : World} {K : PySem.W.Frag} {mg : Str → Option Value} {base : Heap} (T : Txt K mg) : FnOk P w K mg base CX0 2 T.f_open T.fd_open ["_law_script"] (spOpen K) := by
  refine T.F_open.ok sc_open (fun vs H Q E h => ?_) (fun cdv A outer s H vs Q E hr h => ?_)
  · obtain ⟨a, ns, rfl, _⟩ := h
    rfl
  refine ⟨_, (pss_one (ps_ret (pe_lst (pa_cons (pe_callTy (callList K) (by rfl) T.b_list (by decide +kernel) (pa_cons (pe_slice (slL K) (pv 0) po_none (po_some pe_int)) pa_nil)) (pa_cons pe_int (pa_cons pe_int (pa_cons pe_int (pa_cons pe_int pa_nil)))))))), ?_⟩
  obtain ⟨a, ns, rfl, hs, hn, q⟩ := h
  refine ⟨_, rfl, 63, rfl, _, _, rfl, hs, fun p hp => ?_⟩
  have s1 : Same H (upd H p (.lst (cutV (ns.map V.int) none (some 63)))) := same_new hp
  refine ⟨p, _, rfl, .inl (SqL.of upd_same), fun c hc => ?_⟩
  refine ⟨sz_of (show 5 ≤ 100000 by decide), fun b hb => ?_⟩
  have hcp : c ≠ p := fun e => by
    rw [e, upd_same] at hc
    cases hc
  have hbc : c ≠ b := fun e => by
    rw [← e, upd_same] at hb
    cases hb
  refine q b c _ ?_ (fun x o h => ?_) ⟨ns, 0, 0, 100081, 0, upd_same, hbc, by rw [upd_ne hbc, upd_same, cut63 hn], Nat.zero_le _, hn, Int.le_refl _, by decide, by decide, Int.le_refl _⟩
  · cases z : H b with
    | none => rfl
    | some o =>
      have h1 : b ≠ p := ne_of_none z hp
      have h2 : (upd H p (.lst (cutV (ns.map V.int) none (some 63)))) b = some o := by rw [upd_ne h1]; exact z
      have h3 : b ≠ c := ne_of_none h2 hc
      rw [upd_ne h3, h2] at hb
      cases hb
  · have h2 := s1 x o h
    have h3 : (upd (upd H p (.lst (cutV (ns.map V.int) none (some 63)))) c (.lst (cutV (ns.map V.int) none (some 63)))) x = some o := by rw [upd_ne (ne_of_none h2 hc)]; exact h2
    rw [upd_ne (ne_of_none h3 hb)]
    exact h3
/-! ### the law's own frame: the bag in slot 1, nothing else known -/
theorem lawDo {K : PySem.W.Frag} {N : List Str} {H1 : Hp} {b c : Addr} {t : TS} {Q : VK} {σ : L2.St} {δ : List SD} (ba : BagAt H1 b c) (hl : σ.length = δ.length) (h1 : σ[1]? = some (some (.ref b))) (hδ : ∀ i x, δ[i]? = some x → x = .un ∨ (i = 1 ∧ x = .bag))
    (hb : ∀ (M0 : Addr → Bool) (E : XK), Do ⟨K, some b, M0, H1, E, c, []⟩ t δ { nx := fun _ => False, rt := fun d => d = .bl true }) (q : ∀ H', Q (.bl true) H') : t { nx := fun _ H' => Q .non H', rt := Q } σ H1 := by
  have hc : ∃ o, H1 c = some o := by
    obtain ⟨ns, i, z, s, t, _, _, h3, _⟩ := ba
    exact ⟨_, h3⟩
  have al : ∀ a, decide (a = b) = true → ∃ o, H1 a = some o := fun a h => by
    have := of_decide_eq_true h
    subst this
    exact ba.at
  have cx : Ctx ⟨K, some b, fun a => decide (a = b), H1, fun _ _ _ => True, c, []⟩ (fun a => decide (a = b)) σ H1 δ := by
    refine ⟨al, al, fun _ h => h, StepB.refl _ _, ⟨fun b' z => ?_, fun a h => (nomatch h)⟩, hl, fun i x hx => ?_, fun i j p ds es h1 h2 => ?_, fun i p ds h => ?_⟩
    · cases z
      exact ⟨decide_eq_true rfl, ba, hc⟩
    · have hi : i < σ.length := by
        have := (List.getElem?_eq_some_iff.mp hx).1
        omega
      rcases hδ i x hx with rfl | ⟨rfl, rfl⟩
      · exact ⟨σ[i], by simp [hi], trivial⟩
      · exact ⟨_, h1, b, rfl, rfl⟩
    · rcases hδ i _ h1 with z | ⟨_, z⟩ <;> cases z
    · rcases hδ i _ h with z | ⟨_, z⟩ <;> cases z
  refine hb _ _ _ σ H1 _ cx (fun _ _ _ _ p => p.elim) (fun v d M' σ' H' δ' p _ _ r => ?_) (fun _ _ _ _ p => p.elim) (fun _ _ _ _ p => p.elim)
  have e : d = .bl true := p
  subst e
  cases r
  exact q H'
/-- slots forgotten ahead of what follows -/
theorem Ctx.forget1 {F : Fm} {M : Addr → Bool} {σ : L2.St} {H : Hp} {δ : List SD} (c : Ctx F M σ H δ) (i : Nat) : Ctx F M σ H (δ.set i .un) := by
  refine ⟨c.al, c.al0, c.m0, c.fr, c.bg, by rw [List.length_set, c.ln], fun j x hx => ?_, fun j k p ds es h1 h2 => ?_, fun j p ds h => ?_⟩
  · rcases set_key hx with ⟨rfl, rfl, hl⟩ | ⟨hj, hx⟩
    · exact ⟨σ[i]'(by rw [c.ln]; exact hl), by simp, trivial⟩
    · exact c.sl j x hx
  · rcases set_key h1 with ⟨_, z, _⟩ | ⟨_, h1⟩
    · cases z
    rcases set_key h2 with ⟨_, z, _⟩ | ⟨_, h2⟩
    · cases z
    exact c.dj j k p ds es h1 h2
  · rcases set_key h with ⟨_, z, _⟩ | ⟨_, h⟩
    · cases z
    exact c.oh j p ds h
theorem Ctx.forget {F : Fm} {M : Addr → Bool} {σ : L2.St} {H : Hp} {δ : List SD} (c : Ctx F M σ H δ) : ∀ js : List Nat, Ctx F M σ H (wipeD δ js)
  | [] => c
  | j :: js => (Ctx.forget c js).forget1 j
theorem do_wk {F : Fm} {t : TS} {δ : List SD} {R : PD} (js : List Nat) (h : Do F t δ { R with nx := fun δ' => R.nx (wipeD δ' js), ct := fun δ' => R.ct (wipeD δ' js), bk := fun δ' => R.bk (wipeD δ' js) }) : Do F t δ R := fun M σ H E c a b k d =>
  h M σ H E c (fun M' σ' H' δ' p c' s => a M' σ' H' _ p (c'.forget js) s) b (fun M' σ' H' δ' p c' s => k M' σ' H' _ p (c'.forget js) s) (fun M' σ' H' δ' p c' s => d M' σ' H' _ p (c'.forget js) s)
/-- x = e, then the rest: what e is first -/
theorem do_letP {F : Fm} {te : TE} {u : TS} {δ : List SD} {R : PD} {i : Nat} (P : D → Prop) (h : Ev F te δ P) (k : ∀ x, P x → Do F u (δ.set i (.dat x)) R) : Do F (tSeq (tAsg te (gName i)) u) δ R :=
  do_seq (do_set (h.imp fun x p => k x p))
theorem do_let {F : Fm} {te : TE} {u : TS} {δ : List SD} {R : PD} {i : Nat} (v : D) (h : Ev F te δ (· = v)) (k : Do F u (δ.set i (.dat v)) R) : Do F (tSeq (tAsg te (gName i)) u) δ R :=
  do_letP _ h fun x e => by rw [e]; exact k
/-- a text's method of one argument, of none -/
theorem ev_m1 {F : Fm} {δ : List SD} {to te : TE} {r : V → List V → Hp → VK → Prop} {P : D → Prop} (h : Ev F to δ fun x => ∃ z, x = .str z ∧ Ev F te δ fun y => CallD F.K (fun vs H Q => ∃ u v, vs = [u, v] ∧ r u [v] H Q) [.str z, y] P) : Ev F (tM1 r to te) δ P := fun M σ H Q c q =>
  h M σ H _ c fun v x H1 p1 c1 e1 r1 => by
    obtain ⟨z, rfl, p⟩ := p1
    cases r1
    refine ⟨⟨z, rfl⟩, p M σ H1 _ c1 fun w y H2 p2 c2 e2 r2 => ?_⟩
    obtain ⟨u, v, e, h⟩ := p2 M H2 [.str z, w] Q c2.al (.cons (.str z) (.cons r2 .nil)) fun u d H3 p e r3 => q u d H3 p (c2.same e) ((e1.trans e2).trans (StepB.of e)) r3
    cases e
    exact h

/-- into the law behind bag = open(script) -/
def slotsL (N : List Str) : List SD := .un :: .bag :: List.replicate (N.length - 2) .un
def spLaw (K : PySem.W.Frag) : Sp := fun vs H Q _ => ∃ (a : Addr) (ns : List Int), vs = [.ref a] ∧ SqL K H a (ns.map V.int) ∧ ns.length ≤ 63 ∧ ∀ H', Q (.bl true) H'
theorem lawIn {K : PySem.W.Frag} {N : List Str} {vs : List V} {H : Hp} {t : TS} {Q : VK} {E E' : XK} (h : spLaw K vs H Q E) (hN : 2 ≤ N.length)
    (hb : ∀ (b c : Addr) (H1 : Hp) (M0 : Addr → Bool) (E : XK), Do ⟨K, some b, M0, H1, E, c, []⟩ t (slotsL N) { nx := fun _ => False, rt := fun d => d = .bl true }) :
    tSeq (tAsg (tCall (spOpen K) [] E' (tCons (tVar 0) tNil)) (gName 1)) t { nx := fun _ H' => Q .non H', rt := Q } (L2.start N vs) H := by
  obtain ⟨a, ns, rfl, hs, hn, q⟩ := h
  have hl : (L2.start N [V.ref a]).length = N.length := by
    unfold L2.start
    rw [List.length_append, List.length_replicate, List.length_map, List.length_cons, List.length_nil]
    omega
  refine ⟨.ref a, rfl, a, ns, rfl, hs, hn, fun b c H1 hb0 s1 ba => ?_⟩
  show t { nx := fun _ H' => Q .non H', rt := Q } ((L2.start N [V.ref a]).set 1 (some (.ref b))) H1
  refine lawDo (N := N) (δ := slotsL N) ba ?_ ?_ (fun i x h => ?_) (hb b c H1) q
  · unfold slotsL
    rw [List.length_set, hl, List.length_cons, List.length_cons, List.length_replicate]
    omega
  · rw [List.getElem?_set_self (by rw [hl]; omega)]
  · unfold slotsL at h
    match i, h with
    | 0, h => exact .inl (Option.some.inj h).symm
    | 1, h => exact .inr ⟨rfl, (Option.some.inj h).symm⟩
    | i + 2, h => exact .inl (List.eq_of_mem_replicate (List.mem_of_getElem? h))
section
variable {F : Fm} {δ : List SD} {ta : TA} {P : D → Prop} {E : XK} {i : Nat} {b : Addr}
theorem ev_draw (hb : F.B = some b) (hi : δ[i]? = some .bag) (h : EvA F ta δ fun ds => ∃ m, ds = [.int m] ∧ 0 < m ∧ m < 1073741824 ∧ ∀ r, 0 ≤ r → r < m → P (.int r)) : Ev F (tCall (spB F.K preDraw postDraw) [] E (tCons (tVar i) ta)) δ P :=
  ev_callB hb hi (h.imp fun ds ⟨m, e, h0, h1, p⟩ => ⟨⟨m, e, h0, h1⟩, fun d ⟨m', r, e', e2, h2, h3⟩ => by
    subst e
    cases e'
    subst e2
    exact p r h2 h3⟩)
theorem ev_of (hb : F.B = some b) (hi : δ[i]? = some .bag) (h : EvA F ta δ fun ds => ∃ x n, ds = [x] ∧ lenD x = some n ∧ 0 < n ∧ n ≤ 100000 ∧ ∀ k d, 0 ≤ k → k < (n : Int) → atD x k = some d → P d) : Ev F (tCall (spB F.K preOf postOf) [] E (tCons (tVar i) ta)) δ P :=
  ev_callB hb hi (h.imp fun ds ⟨x, n, e, h0, h1, h2, p⟩ => ⟨⟨x, n, e, h0, h1, h2⟩, fun d ⟨x', n', k, e', e2, h3, h4, h5⟩ => by
    subst e
    cases e'
    rw [h0] at e2
    cases e2
    exact p k d h3 h4 h5⟩)
theorem atI_mem {α : Type} {xs : List α} {k : Int} {d : α} (h : atI xs k = some d) : d ∈ xs := by
  obtain ⟨j, _, h2, _⟩ := atI_get h
  exact List.mem_of_getElem? h2
/-- one of a list | of a text -/
theorem ev_ofL (hb : F.B = some b) (hi : δ[i]? = some .bag) (h : EvA F ta δ fun ds => ∃ xs, ds = [.lst xs] ∧ xs ≠ [] ∧ xs.length ≤ 100000 ∧ ∀ d ∈ xs, P d) : Ev F (tCall (spB F.K preOf postOf) [] E (tCons (tVar i) ta)) δ P :=
  ev_of hb hi (h.imp fun ds ⟨xs, e, h0, h1, p⟩ => ⟨_, xs.length, e, rfl, List.length_pos_iff.mpr h0, h1, fun k d _ _ h2 => p d (atI_mem h2)⟩)
theorem ev_ofS (hb : F.B = some b) (hi : δ[i]? = some .bag) (h : EvA F ta δ fun ds => ∃ z : Str, ds = [.str z] ∧ 0 < z.length ∧ z.length ≤ 100000 ∧ ∀ c ∈ z.cps.toList, P (.str ⟨#[c]⟩)) : Ev F (tCall (spB F.K preOf postOf) [] E (tCons (tVar i) ta)) δ P :=
  ev_of hb hi (h.imp fun ds ⟨z, e, h0, h1, p⟩ => ⟨_, z.length, e, rfl, h0, h1, fun k d _ _ h2 => by
    have h3 : (atI z.cps.toList k).map (fun c => D.str ⟨#[c]⟩) = some d := h2
    cases e2 : atI z.cps.toList k with
    | none => rw [e2] at h3; cases h3
    | some c =>
      rw [e2] at h3
      cases h3
      exact p c (atI_mem e2)⟩)
theorem ev_like {n : Nat} (h : EvA F ta δ fun ds => ∃ x y, ds = [x, y] ∧ plD x = true ∧ plD y = true ∧ dep y ≤ n ∧ P (.bl (likeD x y))) : Ev F (tCall (spD F.K (preLike n) postLike) [] E ta) δ P :=
  ev_call (h.imp fun ds ⟨x, y, e, h0, h1, h2, p⟩ => ⟨⟨x, y, e, h0, h1, h2⟩, fun d ⟨x', y', e', e2⟩ => by
    subst e
    cases e'
    subst e2
    exact p⟩)
end
/-! texts -/
def strD (zs : List Str) : List D := zs.map .str
theorem repL_str {K : PySem.W.Frag} {H : Hp} : ∀ {vs : List V} {zs : List Str}, RepL K H vs (strD zs) → vs = zs.map V.str
  | _, [], .nil => rfl
  | _, b :: bs, .cons (.str _) r => by rw [List.map_cons, repL_str (zs := bs) r]
theorem cd_join {K : PySem.W.Frag} {P : D → Prop} {a : Str} {ys : List Str} (hz : (ys.map (·.length)).sum + ys.length * a.length ≤ 16777216) (p : P (.str (Txt.join a ys))) :
    CallD K (fun vs H Q => ∃ u v, vs = [u, v] ∧ ∃ a p, ∃ ys : List Str, u = V.str a ∧ [v] = [V.ref p] ∧ (SqL K H p (ys.map V.str) ∨ SqT K H p (ys.map V.str)) ∧ (ys.map (·.length)).sum + ys.length * a.length ≤ 16777216 ∧ Q (.str (Txt.join a ys)) H) [.str a, .lst (strD ys)] P := fun M H vs Q al r q => by
  cases r with
  | cons r1 r2 =>
  cases r2 with
  | cons r2 r3 =>
  cases r3
  cases r1
  cases r2 with
  | lst h1 h2 =>
    have e := repL_str h2
    subst e
    exact ⟨_, _, rfl, a, _, ys, rfl, rfl, .inl (SqL.of (hd_of h1).2), hz, q _ _ H p (Same.refl H) (.str _)⟩
theorem joinL_nil : ∀ ls : List (List Nat), TL.joinL [] ls = ls.flatten
  | [] => rfl
  | [p] => by simp [TL.joinL]
  | p :: q :: r => by
    show p ++ ([] ++ TL.joinL [] (q :: r)) = _
    rw [joinL_nil (q :: r)]
    simp
theorem join_signs (cs : List Nat) : Txt.join (Str.ofString "") (cs.map fun c => (⟨#[c]⟩ : Str)) = ⟨cs.toArray⟩ := by
  have h : TL.tl (Txt.join (Str.ofString "") (cs.map fun c => (⟨#[c]⟩ : Str))) = cs := by
    rw [TL.join_eq, TL.tl_join]
    have e : TL.tl (Str.ofString "") = [] := by decide +kernel
    rw [e, joinL_nil, List.map_map]
    show (cs.map fun c => [c]).flatten = cs
    induction cs with
    | nil => rfl
    | cons c cs ih => rw [List.map_cons, List.flatten_cons, ih]; rfl
  have h2 : (Txt.join (Str.ofString "") (cs.map fun c => (⟨#[c]⟩ : Str))).cps.toList = cs := h
  generalize Txt.join (Str.ofString "") (cs.map fun c => (⟨#[c]⟩ : Str)) = z at h2
  obtain ⟨a⟩ := z
  have h3 : a.toList = cs := h2
  rw [← h3]
theorem sum_signs (cs : List Nat) : ((cs.map fun c => (⟨#[c]⟩ : Str)).map (·.length)).sum = cs.length := by
  induction cs with
  | nil => rfl
  | cons c cs ih =>
    rw [List.map_cons, List.map_cons, List.sum_cons, ih]
    show 1 + cs.length = cs.length + 1
    omega
theorem str_len (z : Str) : z.cps.toList.length = z.length := by simp [Str.length]
theorem add_len (a b : Str) : (a ++ b).length = a.length + b.length := by
  show (a.cps ++ b.cps).size = _
  rw [Array.size_append]
  rfl

end Pf

namespace Pf
open PySem L2 RZ
local macro_rules | `(tactic| walk_at "ev") => `(tactic| first
  | ((with_reducible refine' ev_var ?h ?_); (case h => rfl))
  | with_reducible refine ev_int ?_
  | with_reducible refine ev_bl ?_
  | with_reducible refine ev_str ?_
  | with_reducible refine ev_non ?_
  | with_reducible refine ev_ty ?_
  | with_reducible refine ev_op ?_
  | with_reducible refine ev_un ?_
  | with_reducible refine ev_chain ?_
  | with_reducible refine ev_if ?_
  | with_reducible refine ev_and ?_
  | with_reducible refine ev_or ?_
  | with_reducible refine ev_not ?_
  | with_reducible refine ev_lst ?_
  | with_reducible refine ev_tup ?_
  | with_reducible refine ea_nil ?_
  | with_reducible refine ea_cons ?_
  | with_reducible refine ev_cb ?_
  | with_reducible refine et_test ?_
  | with_reducible refine et_B ?_
  | with_reducible refine et_and ?_
  | with_reducible refine et_or ?_
  | with_reducible refine et_not ?_
  | with_reducible refine et_yes ?_
  | with_reducible refine eo_none ?_
  | with_reducible refine eo_some ?_
  | with_reducible refine ev_slS ?_
  | with_reducible refine od_int ?_
  | with_reducible refine od_bl ?_
  | with_reducible refine od_eq_int ?_
  | with_reducible refine od_ne_int ?_
  | with_reducible refine od_eq_bl ?_
  | with_reducible refine od_ne_bl ?_
  | with_reducible refine od_eq_str ?_
  | with_reducible refine od_ne_str ?_
  | with_reducible refine od_leS ?_
  | with_reducible refine ud_isN ?_
  | with_reducible refine ud_notN ?_
  | with_reducible refine do_seq ?_
  | with_reducible refine do_set ?_
  | with_reducible refine do_ret ?_
  | with_reducible refine do_retN ?_
  | with_reducible refine do_if ?_
  | with_reducible refine do_next ?_
  | with_reducible refine tg_name ?_
  | with_reducible refine tgs_nil ?_
  | with_reducible refine tgs_cons ?_)
/-! ### copied -/
def preCp (n : Nat) : List D → Prop := fun ds => ∃ x, ds = [x] ∧ plD x = true ∧ dep x ≤ n
theorem preCp_len {n : Nat} : ∀ ds, preCp n ds → ds.length = 1 := fun ds ⟨x, e, _⟩ => by rw [e]; rfl
def preC0 : Nat → List D → Prop
  | 0 => fun _ => False
  | n + 1 => preCp n
theorem cd_tupL {K : PySem.W.Frag} {P : D → Prop} {xs : List D} (p : P (.tup xs)) : CallD K (rTupleK K) [.lst xs] P := fun M H vs Q al r q => by
  cases r with
  | cons r1 r2 =>
    cases r2
    cases r1 with
    | lst h1 h2 => exact ⟨_, _, rfl, .inl ⟨SqL.of (hd_of h1).2, fun l hl => q _ _ _ p (same_new hl) (.tup (SqT.of (hd_new al hl)) (h2.mono (same_hdM (same_new hl))))⟩⟩
theorem take_more {α : Type} {xs : List α} {i : Nat} {x : α} (h : xs[i]? = some x) : xs.take (i + 1) = xs.take i ++ [x] := by rw [List.take_succ, h]; rfl
theorem ok_copied_ {P : Program} {w : World} {K : PySem.W.Frag} {mg : Str → Option Value} {base : Heap} (T : Txt K mg) (n : Nat) (G : FnOk P w K mg base CX0 n T.f_copied T.fd_copied ["value"] (spD K (preC0 n) fun ds d => ds = [d])) :
    FnOk P w K mg base CX0 (n + 1) T.f_copied T.fd_copied ["value"] (spD K (preCp n) fun ds d => ds = [d]) := by
  refine T.F_copied.ok sc_copied (spD_len preCp_len) (fun cdv A outer s H vs Q E hr h => ?_)
  refine ⟨_, (pss_cons (ps_if (pt_val (pe_callB (callIsi K) (by rfl) T.b_isinstance (by decide +kernel) (pa_cons (pv 0) (pa_cons (pe_bltn (v := .ty "list") (by rfl) T.b_list (by decide +kernel) rfl) pa_nil)))) (pss_one (ps_ret (pe_lc (own := [("item", 1)]) rfl sc_copied.nd (piL K (pv 0)) (blkOk_by (N := N_copied) (sc := defScope s_copied) (by decide +kernel)) (fun _ _ _ _ _ => (pg_name (i := 1) sc_copied.nd rfl (Or.inl rfl))) (fun _ _ _ _ _ => pts_nil) (fun _ _ _ _ _ => (pe_call G hr rfl T.g_copied T.k_copied T.bd_copied .nil pass0 (pa_cons (pv 1) pa_nil)))))) pss_nil)
    (pss_cons (ps_if (pt_val (pe_callB (callIsi K) (by rfl) T.b_isinstance (by decide +kernel) (pa_cons (pv 0) (pa_cons (pe_bltn (v := .ty "tuple") (by rfl) T.b_tuple (by decide +kernel) rfl) pa_nil)))) (pss_one (ps_ret (pe_callTy (callTuple K) (by rfl) T.b_tuple (by decide +kernel) (pa_cons (pe_lc (own := [("item", 1)]) rfl sc_copied.nd (piT K (pv 0)) (blkOk_by (N := N_copied) (sc := defScope s_copied) (by decide +kernel)) (fun _ _ _ _ _ => (pg_name (i := 1) sc_copied.nd rfl (Or.inl rfl))) (fun _ _ _ _ _ => pts_nil) (fun _ _ _ _ _ => (pe_call G hr rfl T.g_copied T.k_copied T.bd_copied .nil pass0 (pa_cons (pv 1) pa_nil)))) pa_nil)))) pss_nil)
    (pss_one (ps_ret (pv 0))))), ?_⟩
  refine enterD h fun M ds pre _ => ?_
  obtain ⟨x, rfl, px, hd⟩ := pre
  obtain ⟨a, ha⟩ := ty_of px
  have isx : ∀ {n : String} {P : D → Prop}, n ∈ tyAsk → P (.bl (isD x n)) → CallD K (rIsi K) [x, .ty n] P := fun hn p => cd_isi ha hn p
  have one : ∀ {F : Fm} {δ : List SD} {E : XK} {xs : List D} {i : Nat} {d : D} {P : D → Prop}, F.K = K → plL xs = true → depL xs + 1 ≤ n → xs[i]? = some d → δ[1]? = some (.dat d) → P d → Ev F (tCall (spD K (preC0 n) fun ds d => ds = [d]) [] E (tCons (tVar 1) tNil)) δ P := fun {F δ E xs i d P} eK pl dl hi h1 p => by
    subst eK
    obtain ⟨k, rfl⟩ : ∃ k, n = k + 1 := ⟨n - 1, by omega⟩
    refine ev_call (ea_cons (ev_var h1 (ea_nil ⟨⟨d, rfl, plL_get pl hi, ?_⟩, fun d' e => ?_⟩)))
    · have := depL_get hi
      omega
    · cases e
      exact p
  refine do_seq (do_if (et_test ?_))
  repeat (first | walk_at "ev" | refine isx (by decide) ?_)
  refine ⟨_, rfl, fun h1 => ?_, fun h1 => do_next ?_⟩
  · obtain ⟨xs, rfl⟩ : ∃ xs, x = .lst xs := by cases x <;> first | exact ⟨_, rfl⟩ | (simp [isD, tyName, isTy] at h1)
    simp only [plD, Bool.and_eq_true, decide_eq_true_eq] at px
    simp only [dep] at hd
    refine do_ret (EvN.ev ?_)
    refine en_lc (js := [1]) (PX := fun l => l = xs) (it_list (ev_var rfl ⟨_, rfl, rfl⟩)) (fun l e => by rw [e]; omega) (by decide) (fun l i acc => acc = xs.take i) (fun l e => rfl) ?_ ?_
    · rintro l i d acc rfl hi rfl
      refine tg_name (et_yes ⟨fun _ => ?_, fun h => nomatch h⟩)
      exact one rfl px.2 hd hi rfl (take_more hi).symm
    · rintro l ds rfl rfl
      rw [List.take_length]
  · refine do_seq (do_if (et_test ?_))
    repeat (first | walk_at "ev" | refine isx (by decide) ?_)
    refine ⟨_, rfl, fun h2 => ?_, fun h2 => do_next ?_⟩
    · obtain ⟨xs, rfl⟩ : ∃ xs, x = .tup xs := by cases x <;> first | exact ⟨_, rfl⟩ | (simp [isD, tyName, isTy] at h2)
      simp only [plD, Bool.and_eq_true, decide_eq_true_eq] at px
      simp only [dep] at hd
      refine do_ret (ev_cb (ea_cons (EvN.ev ?_)))
      refine en_lc (js := [1]) (PX := fun l => l = xs) (it_tup (ev_var rfl ⟨_, rfl, rfl⟩)) (fun l e => by rw [e]; omega) (by decide) (fun l i acc => acc = xs.take i) (fun l e => rfl) ?_ ?_
      · rintro l i d acc rfl hi rfl
        refine tg_name (et_yes ⟨fun _ => ?_, fun h => nomatch h⟩)
        exact one rfl px.2 hd hi rfl (take_more hi).symm
      · rintro l ds rfl rfl
        rw [List.take_length]
        exact ea_nil (cd_tupL rfl)
    · exact do_ret (ev_var rfl rfl)
theorem ok_copied {P : Program} {w : World} {K : PySem.W.Frag} {mg : Str → Option Value} {base : Heap} (T : Txt K mg) : ∀ n, FnOk P w K mg base CX0 (n + 1) T.f_copied T.fd_copied ["value"] (spD K (preCp n) fun ds d => ds = [d]) := by
  intro n
  induction n with
  | zero => exact ok_copied_ T 0 ⟨fun vs H Q E ⟨_, _, _, _, p, _⟩ => p.elim, fun A outer s H args us vs Q E _ _ _ _ ⟨_, _, _, _, p, _⟩ => p.elim⟩
  | succ n ih => exact ok_copied_ T (n + 1) ih
theorem ok_InvalidRow_init {P : Program} {w : World} {K : PySem.W.Frag} {mg : Str → Option Value} {base : Heap} (T : Txt K mg) : FnOk P w K mg base CX0 6 T.f_InvalidRow_init T.fd_InvalidRow_init ["self", "at"] (spX K T.c_InvalidRow (preCp 4) (postX1 "InvalidRow" "at")) := by
  refine T.F_InvalidRow_init.ok sc_InvalidRow_init (fun vs H Q E h => spX_len preCp_len h) (fun cdv A outer s H vs Q E hr h => ?_)
  exact ⟨_, (pss_cons (ps_xst (pv 0) pe_str)
    (pss_one (ps_xst (pv 0) (pe_call (ok_copied T 4) (hr.mono (by decide)) rfl T.g_copied T.k_copied T.bd_copied .nil pass0 (pa_cons (pv 1) pa_nil))))), initX1 T.xa_InvalidRow.x (T.xa_InvalidRow.no _ (by simp)) (T.xa_InvalidRow.no _ (by simp)) h preCp_len⟩
theorem ok_InvalidState_init {P : Program} {w : World} {K : PySem.W.Frag} {mg : Str → Option Value} {base : Heap} (T : Txt K mg) : FnOk P w K mg base CX0 6 T.f_InvalidState_init T.fd_InvalidState_init ["self", "at"] (spX K T.c_InvalidState (preCp 4) (postX1 "InvalidState" "at")) := by
  refine T.F_InvalidState_init.ok sc_InvalidState_init (fun vs H Q E h => spX_len preCp_len h) (fun cdv A outer s H vs Q E hr h => ?_)
  exact ⟨_, (pss_cons (ps_xst (pv 0) pe_str)
    (pss_one (ps_xst (pv 0) (pe_call (ok_copied T 4) (hr.mono (by decide)) rfl T.g_copied T.k_copied T.bd_copied .nil pass0 (pa_cons (pv 1) pa_nil))))), initX1 T.xa_InvalidState.x (T.xa_InvalidState.no _ (by simp)) (T.xa_InvalidState.no _ (by simp)) h preCp_len⟩
theorem ok_InvalidGroup_init {P : Program} {w : World} {K : PySem.W.Frag} {mg : Str → Option Value} {base : Heap} (T : Txt K mg) : FnOk P w K mg base CX0 6 T.f_InvalidGroup_init T.fd_InvalidGroup_init ["self", "at"] (spX K T.c_InvalidGroup (preCp 4) (postX1 "InvalidGroup" "at")) := by
  refine T.F_InvalidGroup_init.ok sc_InvalidGroup_init (fun vs H Q E h => spX_len preCp_len h) (fun cdv A outer s H vs Q E hr h => ?_)
  exact ⟨_, (pss_cons (ps_xst (pv 0) pe_str)
    (pss_one (ps_xst (pv 0) (pe_call (ok_copied T 4) (hr.mono (by decide)) rfl T.g_copied T.k_copied T.bd_copied .nil pass0 (pa_cons (pv 1) pa_nil))))), initX1 T.xa_InvalidGroup.x (T.xa_InvalidGroup.no _ (by simp)) (T.xa_InvalidGroup.no _ (by simp)) h preCp_len⟩
theorem ok_InvalidCommand_init {P : Program} {w : World} {K : PySem.W.Frag} {mg : Str → Option Value} {base : Heap} (T : Txt K mg) : FnOk P w K mg base CX0 6 T.f_InvalidCommand_init T.fd_InvalidCommand_init ["self", "at"] (spX K T.c_InvalidCommand (preCp 4) (postX1 "InvalidCommand" "at")) := by
  refine T.F_InvalidCommand_init.ok sc_InvalidCommand_init (fun vs H Q E h => spX_len preCp_len h) (fun cdv A outer s H vs Q E hr h => ?_)
  exact ⟨_, (pss_cons (ps_xst (pv 0) pe_str)
    (pss_one (ps_xst (pv 0) (pe_call (ok_copied T 4) (hr.mono (by decide)) rfl T.g_copied T.k_copied T.bd_copied .nil pass0 (pa_cons (pv 1) pa_nil))))), initX1 T.xa_InvalidCommand.x (T.xa_InvalidCommand.no _ (by simp)) (T.xa_InvalidCommand.no _ (by simp)) h preCp_len⟩
theorem ok_InvalidPart_init {P : Program} {w : World} {K : PySem.W.Frag} {mg : Str → Option Value} {base : Heap} (T : Txt K mg) : FnOk P w K mg base CX0 6 T.f_InvalidPart_init T.fd_InvalidPart_init ["self", "given"] (spX K T.c_InvalidPart (preCp 4) (postX1 "InvalidPart" "given")) := by
  refine T.F_InvalidPart_init.ok sc_InvalidPart_init (fun vs H Q E h => spX_len preCp_len h) (fun cdv A outer s H vs Q E hr h => ?_)
  exact ⟨_, (pss_cons (ps_xst (pv 0) pe_str)
    (pss_one (ps_xst (pv 0) (pe_call (ok_copied T 4) (hr.mono (by decide)) rfl T.g_copied T.k_copied T.bd_copied .nil pass0 (pa_cons (pv 1) pa_nil))))), initX1 T.xa_InvalidPart.x (T.xa_InvalidPart.no _ (by simp)) (T.xa_InvalidPart.no _ (by simp)) h preCp_len⟩
theorem ok_InvalidMark_init {P : Program} {w : World} {K : PySem.W.Frag} {mg : Str → Option Value} {base : Heap} (T : Txt K mg) : FnOk P w K mg base CX0 6 T.f_InvalidMark_init T.fd_InvalidMark_init ["self", "given"] (spX K T.c_InvalidMark (preCp 4) (postX1 "InvalidMark" "given")) := by
  refine T.F_InvalidMark_init.ok sc_InvalidMark_init (fun vs H Q E h => spX_len preCp_len h) (fun cdv A outer s H vs Q E hr h => ?_)
  exact ⟨_, (pss_cons (ps_xst (pv 0) pe_str)
    (pss_one (ps_xst (pv 0) (pe_call (ok_copied T 4) (hr.mono (by decide)) rfl T.g_copied T.k_copied T.bd_copied .nil pass0 (pa_cons (pv 1) pa_nil))))), initX1 T.xa_InvalidMark.x (T.xa_InvalidMark.no _ (by simp)) (T.xa_InvalidMark.no _ (by simp)) h preCp_len⟩
theorem ok_InvalidOrder_init {P : Program} {w : World} {K : PySem.W.Frag} {mg : Str → Option Value} {base : Heap} (T : Txt K mg) : FnOk P w K mg base CX0 6 T.f_InvalidOrder_init T.fd_InvalidOrder_init ["self", "given"] (spX K T.c_InvalidOrder (preCp 4) (postX1 "InvalidOrder" "given")) := by
  refine T.F_InvalidOrder_init.ok sc_InvalidOrder_init (fun vs H Q E h => spX_len preCp_len h) (fun cdv A outer s H vs Q E hr h => ?_)
  exact ⟨_, (pss_cons (ps_xst (pv 0) pe_str)
    (pss_one (ps_xst (pv 0) (pe_call (ok_copied T 4) (hr.mono (by decide)) rfl T.g_copied T.k_copied T.bd_copied .nil pass0 (pa_cons (pv 1) pa_nil))))), initX1 T.xa_InvalidOrder.x (T.xa_InvalidOrder.no _ (by simp)) (T.xa_InvalidOrder.no _ (by simp)) h preCp_len⟩
theorem ok_InvalidAsk_init {P : Program} {w : World} {K : PySem.W.Frag} {mg : Str → Option Value} {base : Heap} (T : Txt K mg) : FnOk P w K mg base CX0 6 T.f_InvalidAsk_init T.fd_InvalidAsk_init ["self", "given"] (spX K T.c_InvalidAsk (preCp 4) (postX1 "InvalidAsk" "given")) := by
  refine T.F_InvalidAsk_init.ok sc_InvalidAsk_init (fun vs H Q E h => spX_len preCp_len h) (fun cdv A outer s H vs Q E hr h => ?_)
  exact ⟨_, (pss_cons (ps_xst (pv 0) pe_str)
    (pss_one (ps_xst (pv 0) (pe_call (ok_copied T 4) (hr.mono (by decide)) rfl T.g_copied T.k_copied T.bd_copied .nil pass0 (pa_cons (pv 1) pa_nil))))), initX1 T.xa_InvalidAsk.x (T.xa_InvalidAsk.no _ (by simp)) (T.xa_InvalidAsk.no _ (by simp)) h preCp_len⟩
theorem ok_InvalidNumber_init {P : Program} {w : World} {K : PySem.W.Frag} {mg : Str → Option Value} {base : Heap} (T : Txt K mg) : FnOk P w K mg base CX0 6 T.f_InvalidNumber_init T.fd_InvalidNumber_init ["self", "given"] (spX K T.c_InvalidNumber (preCp 4) (postX1 "InvalidNumber" "given")) := by
  refine T.F_InvalidNumber_init.ok sc_InvalidNumber_init (fun vs H Q E h => spX_len preCp_len h) (fun cdv A outer s H vs Q E hr h => ?_)
  exact ⟨_, (pss_cons (ps_xst (pv 0) pe_str)
    (pss_one (ps_xst (pv 0) (pe_call (ok_copied T 4) (hr.mono (by decide)) rfl T.g_copied T.k_copied T.bd_copied .nil pass0 (pa_cons (pv 1) pa_nil))))), initX1 T.xa_InvalidNumber.x (T.xa_InvalidNumber.no _ (by simp)) (T.xa_InvalidNumber.no _ (by simp)) h preCp_len⟩
theorem ok_InvalidStanding_init {P : Program} {w : World} {K : PySem.W.Frag} {mg : Str → Option Value} {base : Heap} (T : Txt K mg) : FnOk P w K mg base CX0 6 T.f_InvalidStanding_init T.fd_InvalidStanding_init ["self", "given"] (spX K T.c_InvalidStanding (preCp 4) (postX1 "InvalidStanding" "given")) := by
  refine T.F_InvalidStanding_init.ok sc_InvalidStanding_init (fun vs H Q E h => spX_len preCp_len h) (fun cdv A outer s H vs Q E hr h => ?_)
  exact ⟨_, (pss_cons (ps_xst (pv 0) pe_str)
    (pss_one (ps_xst (pv 0) (pe_call (ok_copied T 4) (hr.mono (by decide)) rfl T.g_copied T.k_copied T.bd_copied .nil pass0 (pa_cons (pv 1) pa_nil))))), initX1 T.xa_InvalidStanding.x (T.xa_InvalidStanding.no _ (by simp)) (T.xa_InvalidStanding.no _ (by simp)) h preCp_len⟩
theorem ok_InvalidKind_init {P : Program} {w : World} {K : PySem.W.Frag} {mg : Str → Option Value} {base : Heap} (T : Txt K mg) : FnOk P w K mg base CX0 6 T.f_InvalidKind_init T.fd_InvalidKind_init ["self", "given"] (spX K T.c_InvalidKind (preCp 4) (postX1 "InvalidKind" "given")) := by
  refine T.F_InvalidKind_init.ok sc_InvalidKind_init (fun vs H Q E h => spX_len preCp_len h) (fun cdv A outer s H vs Q E hr h => ?_)
  exact ⟨_, (pss_cons (ps_xst (pv 0) pe_str)
    (pss_one (ps_xst (pv 0) (pe_call (ok_copied T 4) (hr.mono (by decide)) rfl T.g_copied T.k_copied T.bd_copied .nil pass0 (pa_cons (pv 1) pa_nil))))), initX1 T.xa_InvalidKind.x (T.xa_InvalidKind.no _ (by simp)) (T.xa_InvalidKind.no _ (by simp)) h preCp_len⟩
theorem ok_InvalidWay_init {P : Program} {w : World} {K : PySem.W.Frag} {mg : Str → Option Value} {base : Heap} (T : Txt K mg) : FnOk P w K mg base CX0 6 T.f_InvalidWay_init T.fd_InvalidWay_init ["self", "given"] (spX K T.c_InvalidWay (preCp 4) (postX1 "InvalidWay" "given")) := by
  refine T.F_InvalidWay_init.ok sc_InvalidWay_init (fun vs H Q E h => spX_len preCp_len h) (fun cdv A outer s H vs Q E hr h => ?_)
  exact ⟨_, (pss_cons (ps_xst (pv 0) pe_str)
    (pss_one (ps_xst (pv 0) (pe_call (ok_copied T 4) (hr.mono (by decide)) rfl T.g_copied T.k_copied T.bd_copied .nil pass0 (pa_cons (pv 1) pa_nil))))), initX1 T.xa_InvalidWay.x (T.xa_InvalidWay.no _ (by simp)) (T.xa_InvalidWay.no _ (by simp)) h preCp_len⟩
theorem ok_InvalidName_init {P : Program} {w : World} {K : PySem.W.Frag} {mg : Str → Option Value} {base : Heap} (T : Txt K mg) : FnOk P w K mg base CX0 6 T.f_InvalidName_init T.fd_InvalidName_init ["self", "given"] (spX K T.c_InvalidName (preCp 4) (postX1 "InvalidName" "given")) := by
  refine T.F_InvalidName_init.ok sc_InvalidName_init (fun vs H Q E h => spX_len preCp_len h) (fun cdv A outer s H vs Q E hr h => ?_)
  exact ⟨_, (pss_cons (ps_xst (pv 0) pe_str)
    (pss_one (ps_xst (pv 0) (pe_call (ok_copied T 4) (hr.mono (by decide)) rfl T.g_copied T.k_copied T.bd_copied .nil pass0 (pa_cons (pv 1) pa_nil))))), initX1 T.xa_InvalidName.x (T.xa_InvalidName.no _ (by simp)) (T.xa_InvalidName.no _ (by simp)) h preCp_len⟩
theorem ok_InvalidLimit_init {P : Program} {w : World} {K : PySem.W.Frag} {mg : Str → Option Value} {base : Heap} (T : Txt K mg) : FnOk P w K mg base CX0 6 T.f_InvalidLimit_init T.fd_InvalidLimit_init ["self", "given"] (spX K T.c_InvalidLimit (preCp 4) (postX1 "InvalidLimit" "given")) := by
  refine T.F_InvalidLimit_init.ok sc_InvalidLimit_init (fun vs H Q E h => spX_len preCp_len h) (fun cdv A outer s H vs Q E hr h => ?_)
  exact ⟨_, (pss_cons (ps_xst (pv 0) pe_str)
    (pss_one (ps_xst (pv 0) (pe_call (ok_copied T 4) (hr.mono (by decide)) rfl T.g_copied T.k_copied T.bd_copied .nil pass0 (pa_cons (pv 1) pa_nil))))), initX1 T.xa_InvalidLimit.x (T.xa_InvalidLimit.no _ (by simp)) (T.xa_InvalidLimit.no _ (by simp)) h preCp_len⟩
theorem ok_InvalidText_init {P : Program} {w : World} {K : PySem.W.Frag} {mg : Str → Option Value} {base : Heap} (T : Txt K mg) : FnOk P w K mg base CX0 6 T.f_InvalidText_init T.fd_InvalidText_init ["self", "line"] (spX K T.c_InvalidText (preCp 4) (postX1 "InvalidText" "line")) := by
  refine T.F_InvalidText_init.ok sc_InvalidText_init (fun vs H Q E h => spX_len preCp_len h) (fun cdv A outer s H vs Q E hr h => ?_)
  exact ⟨_, (pss_cons (ps_xst (pv 0) pe_str)
    (pss_one (ps_xst (pv 0) (pe_call (ok_copied T 4) (hr.mono (by decide)) rfl T.g_copied T.k_copied T.bd_copied .nil pass0 (pa_cons (pv 1) pa_nil))))), initX1 T.xa_InvalidText.x (T.xa_InvalidText.no _ (by simp)) (T.xa_InvalidText.no _ (by simp)) h preCp_len⟩
theorem ok_DuplicateNumber_init {P : Program} {w : World} {K : PySem.W.Frag} {mg : Str → Option Value} {base : Heap} (T : Txt K mg) : FnOk P w K mg base CX0 6 T.f_DuplicateNumber_init T.fd_DuplicateNumber_init ["self", "number"] (spX K T.c_DuplicateNumber (preCp 4) (postX1 "DuplicateNumber" "number")) := by
  refine T.F_DuplicateNumber_init.ok sc_DuplicateNumber_init (fun vs H Q E h => spX_len preCp_len h) (fun cdv A outer s H vs Q E hr h => ?_)
  exact ⟨_, (pss_cons (ps_xst (pv 0) pe_str)
    (pss_one (ps_xst (pv 0) (pe_call (ok_copied T 4) (hr.mono (by decide)) rfl T.g_copied T.k_copied T.bd_copied .nil pass0 (pa_cons (pv 1) pa_nil))))), initX1 T.xa_DuplicateNumber.x (T.xa_DuplicateNumber.no _ (by simp)) (T.xa_DuplicateNumber.no _ (by simp)) h preCp_len⟩
theorem ok_DuplicateName_init {P : Program} {w : World} {K : PySem.W.Frag} {mg : Str → Option Value} {base : Heap} (T : Txt K mg) : FnOk P w K mg base CX0 6 T.f_DuplicateName_init T.fd_DuplicateName_init ["self", "name"] (spX K T.c_DuplicateName (preCp 4) (postX1 "DuplicateName" "name")) := by
  refine T.F_DuplicateName_init.ok sc_DuplicateName_init (fun vs H Q E h => spX_len preCp_len h) (fun cdv A outer s H vs Q E hr h => ?_)
  exact ⟨_, (pss_cons (ps_xst (pv 0) pe_str)
    (pss_one (ps_xst (pv 0) (pe_call (ok_copied T 4) (hr.mono (by decide)) rfl T.g_copied T.k_copied T.bd_copied .nil pass0 (pa_cons (pv 1) pa_nil))))), initX1 T.xa_DuplicateName.x (T.xa_DuplicateName.no _ (by simp)) (T.xa_DuplicateName.no _ (by simp)) h preCp_len⟩
theorem ok_TooMany_init {P : Program} {w : World} {K : PySem.W.Frag} {mg : Str → Option Value} {base : Heap} (T : Txt K mg) : FnOk P w K mg base CX0 6 T.f_TooMany_init T.fd_TooMany_init ["self", "most"] (spX K T.c_TooMany (preCp 4) (postX1 "TooMany" "most")) := by
  refine T.F_TooMany_init.ok sc_TooMany_init (fun vs H Q E h => spX_len preCp_len h) (fun cdv A outer s H vs Q E hr h => ?_)
  exact ⟨_, (pss_cons (ps_xst (pv 0) pe_str)
    (pss_one (ps_xst (pv 0) (pe_call (ok_copied T 4) (hr.mono (by decide)) rfl T.g_copied T.k_copied T.bd_copied .nil pass0 (pa_cons (pv 1) pa_nil))))), initX1 T.xa_TooMany.x (T.xa_TooMany.no _ (by simp)) (T.xa_TooMany.no _ (by simp)) h preCp_len⟩
theorem ok_WrongReader_init {P : Program} {w : World} {K : PySem.W.Frag} {mg : Str → Option Value} {base : Heap} (T : Txt K mg) : FnOk P w K mg base CX0 6 T.f_WrongReader_init T.fd_WrongReader_init ["self", "first"] (spX K T.c_WrongReader (preCp 4) (postX1 "WrongReader" "first")) := by
  refine T.F_WrongReader_init.ok sc_WrongReader_init (fun vs H Q E h => spX_len preCp_len h) (fun cdv A outer s H vs Q E hr h => ?_)
  exact ⟨_, (pss_cons (ps_xst (pv 0) pe_str)
    (pss_one (ps_xst (pv 0) (pe_call (ok_copied T 4) (hr.mono (by decide)) rfl T.g_copied T.k_copied T.bd_copied .nil pass0 (pa_cons (pv 1) pa_nil))))), initX1 T.xa_WrongReader.x (T.xa_WrongReader.no _ (by simp)) (T.xa_WrongReader.no _ (by simp)) h preCp_len⟩
theorem ok_Full_init {P : Program} {w : World} {K : PySem.W.Frag} {mg : Str → Option Value} {base : Heap} (T : Txt K mg) : FnOk P w K mg base CX0 6 T.f_Full_init T.fd_Full_init ["self", "limit"] (spX K T.c_Full (preCp 4) (postX1 "Full" "limit")) := by
  refine T.F_Full_init.ok sc_Full_init (fun vs H Q E h => spX_len preCp_len h) (fun cdv A outer s H vs Q E hr h => ?_)
  exact ⟨_, (pss_cons (ps_xst (pv 0) pe_str)
    (pss_one (ps_xst (pv 0) (pe_call (ok_copied T 4) (hr.mono (by decide)) rfl T.g_copied T.k_copied T.bd_copied .nil pass0 (pa_cons (pv 1) pa_nil))))), initX1 T.xa_Full.x (T.xa_Full.no _ (by simp)) (T.xa_Full.no _ (by simp)) h preCp_len⟩
theorem ok_PartsDiffer_init {P : Program} {w : World} {K : PySem.W.Frag} {mg : Str → Option Value} {base : Heap} (T : Txt K mg) : FnOk P w K mg base CX0 6 T.f_PartsDiffer_init T.fd_PartsDiffer_init ["self"] (spX K T.c_PartsDiffer (fun ds => ds = []) (postX0 "PartsDiffer")) := by
  refine T.F_PartsDiffer_init.ok sc_PartsDiffer_init (fun vs H Q E h => spX_len (n := 0) (fun ds h => by rw [h]; rfl) h) (fun cdv A outer s H vs Q E hr h => ?_)
  exact ⟨_, (pss_one (ps_xst (pv 0) pe_str)), initX0 T.xa_PartsDiffer.x (T.xa_PartsDiffer.no _ (by simp)) h⟩
theorem ok_Ended_init {P : Program} {w : World} {K : PySem.W.Frag} {mg : Str → Option Value} {base : Heap} (T : Txt K mg) : FnOk P w K mg base CX0 6 T.f_Ended_init T.fd_Ended_init ["self"] (spX K T.c_Ended (fun ds => ds = []) (postX0 "Ended")) := by
  refine T.F_Ended_init.ok sc_Ended_init (fun vs H Q E h => spX_len (n := 0) (fun ds h => by rw [h]; rfl) h) (fun cdv A outer s H vs Q E hr h => ?_)
  exact ⟨_, (pss_one (ps_xst (pv 0) pe_str)), initX0 T.xa_Ended.x (T.xa_Ended.no _ (by simp)) h⟩
theorem ok_UnknownName_init {P : Program} {w : World} {K : PySem.W.Frag} {mg : Str → Option Value} {base : Heap} (T : Txt K mg) : FnOk P w K mg base CX0 6 T.f_UnknownName_init T.fd_UnknownName_init ["self", "name"] (spX K T.c_UnknownName (preCp 4) (postX1 "UnknownName" "name")) := by
  refine T.F_UnknownName_init.ok sc_UnknownName_init (fun vs H Q E h => spX_len preCp_len h) (fun cdv A outer s H vs Q E hr h => ?_)
  exact ⟨_, (pss_cons (ps_xst (pv 0) pe_str)
    (pss_one (ps_xst (pv 0) (pe_call (ok_copied T 4) (hr.mono (by decide)) rfl T.g_copied T.k_copied T.bd_copied .nil pass0 (pa_cons (pv 1) pa_nil))))), initX1 T.xa_UnknownName.x (T.xa_UnknownName.no _ (by simp)) (T.xa_UnknownName.no _ (by simp)) h preCp_len⟩
theorem ok_UnknownNumber_init {P : Program} {w : World} {K : PySem.W.Frag} {mg : Str → Option Value} {base : Heap} (T : Txt K mg) : FnOk P w K mg base CX0 6 T.f_UnknownNumber_init T.fd_UnknownNumber_init ["self", "number"] (spX K T.c_UnknownNumber (preCp 4) (postX1 "UnknownNumber" "number")) := by
  refine T.F_UnknownNumber_init.ok sc_UnknownNumber_init (fun vs H Q E h => spX_len preCp_len h) (fun cdv A outer s H vs Q E hr h => ?_)
  exact ⟨_, (pss_cons (ps_xst (pv 0) pe_str)
    (pss_one (ps_xst (pv 0) (pe_call (ok_copied T 4) (hr.mono (by decide)) rfl T.g_copied T.k_copied T.bd_copied .nil pass0 (pa_cons (pv 1) pa_nil))))), initX1 T.xa_UnknownNumber.x (T.xa_UnknownNumber.no _ (by simp)) (T.xa_UnknownNumber.no _ (by simp)) h preCp_len⟩
theorem ok_NothingLeft_init {P : Program} {w : World} {K : PySem.W.Frag} {mg : Str → Option Value} {base : Heap} (T : Txt K mg) : FnOk P w K mg base CX0 6 T.f_NothingLeft_init T.fd_NothingLeft_init ["self"] (spX K T.c_NothingLeft (fun ds => ds = []) (postX0 "NothingLeft")) := by
  refine T.F_NothingLeft_init.ok sc_NothingLeft_init (fun vs H Q E h => spX_len (n := 0) (fun ds h => by rw [h]; rfl) h) (fun cdv A outer s H vs Q E hr h => ?_)
  exact ⟨_, (pss_one (ps_xst (pv 0) pe_str)), initX0 T.xa_NothingLeft.x (T.xa_NothingLeft.no _ (by simp)) h⟩

end Pf

namespace Pf
open PySem L2 RZ
local macro_rules | `(tactic| walk_at "ev") => `(tactic| first
  | ((with_reducible refine' ev_var ?h ?_); (case h => rfl))
  | with_reducible refine ev_int ?_
  | with_reducible refine ev_bl ?_
  | with_reducible refine ev_str ?_
  | with_reducible refine ev_non ?_
  | with_reducible refine ev_ty ?_
  | with_reducible refine ev_op ?_
  | with_reducible refine ev_un ?_
  | with_reducible refine ev_chain ?_
  | with_reducible refine ev_if ?_
  | with_reducible refine ev_and ?_
  | with_reducible refine ev_or ?_
  | with_reducible refine ev_not ?_
  | with_reducible refine ev_lst ?_
  | with_reducible refine ev_tup ?_
  | with_reducible refine ea_nil ?_
  | with_reducible refine ea_cons ?_
  | with_reducible refine ev_cb ?_
  | with_reducible refine et_test ?_
  | with_reducible refine et_B ?_
  | with_reducible refine et_and ?_
  | with_reducible refine et_or ?_
  | with_reducible refine et_not ?_
  | with_reducible refine et_yes ?_
  | with_reducible refine eo_none ?_
  | with_reducible refine eo_some ?_
  | with_reducible refine ev_slS ?_
  | with_reducible refine od_int ?_
  | with_reducible refine od_bl ?_
  | with_reducible refine od_eq_int ?_
  | with_reducible refine od_ne_int ?_
  | with_reducible refine od_eq_bl ?_
  | with_reducible refine od_ne_bl ?_
  | with_reducible refine od_eq_str ?_
  | with_reducible refine od_ne_str ?_
  | with_reducible refine od_leS ?_
  | with_reducible refine ud_isN ?_
  | with_reducible refine ud_notN ?_
  | with_reducible refine do_seq ?_
  | with_reducible refine do_set ?_
  | with_reducible refine do_ret ?_
  | with_reducible refine do_retN ?_
  | with_reducible refine do_if ?_
  | with_reducible refine do_next ?_
  | with_reducible refine tg_name ?_
  | with_reducible refine tgs_nil ?_
  | with_reducible refine tgs_cons ?_)
/-! ### the classes of an error -/
def preKin {K : PySem.W.Frag} {mg : Str → Option Value} (T : Txt K mg) : List D → Prop := fun ds => ∃ C gs i, ds = [.exc C gs] ∧ XCls K C ∧ KindsAt K T.c_PartError T.c_Missing T.c_NothingLeft C i
def kinD (i : Nat) : D := .lst [.bl (decide (i < 22)), .bl (decide (i < 22)), .bl (decide (21 < i)), .bl (decide (21 < i) && decide (i < 24)), .bl (i == 24), .bl (i == 24), .bl false]
def postKin {K : PySem.W.Frag} {mg : Str → Option Value} (T : Txt K mg) : List D → D → Prop := fun ds d => ∃ C gs i, ds = [.exc C gs] ∧ KindsAt K T.c_PartError T.c_Missing T.c_NothingLeft C i ∧ d = kinD i
theorem ok_kinds_of {P : Program} {w : World} {K : PySem.W.Frag} {mg : Str → Option Value} {base : Heap} (T : Txt K mg) : FnOk P w K mg base CX0 2 T.f_kinds_of T.fd_kinds_of ["_law_e"] (spD K (preKin T) (postKin T)) := by
  refine T.F_kinds_of.ok sc_kinds_of (spD_len fun ds ⟨C, gs, i, e, _⟩ => by rw [e]; rfl) (fun cdv A outer s H vs Q E hr h => ?_)
  refine ⟨_, (pss_one (ps_ret (pe_lst (pa_cons (pe_callB call_isX (by rfl) T.b_isinstance (by decide +kernel) (pa_cons (pv 0) (pa_cons (pe_bltn (v := .ty "ValueError") (by rfl) T.b_ValueError (by decide +kernel) rfl) pa_nil))) (pa_cons (pe_callB call_isX (by rfl) T.b_isinstance (by decide +kernel) (pa_cons (pv 0) (pa_cons (pe_glob (v := .ref T.c_PartError) rfl T.g_PartError rfl) pa_nil))) (pa_cons (pe_callB call_isX (by rfl) T.b_isinstance (by decide +kernel) (pa_cons (pv 0) (pa_cons (pe_bltn (v := .ty "LookupError") (by rfl) T.b_LookupError (by decide +kernel) rfl) pa_nil))) (pa_cons (pe_callB call_isX (by rfl) T.b_isinstance (by decide +kernel) (pa_cons (pv 0) (pa_cons (pe_glob (v := .ref T.c_Missing) rfl T.g_Missing rfl) pa_nil))) (pa_cons (pe_callB call_isX (by rfl) T.b_isinstance (by decide +kernel) (pa_cons (pv 0) (pa_cons (pe_bltn (v := .ty "IndexError") (by rfl) T.b_IndexError (by decide +kernel) rfl) pa_nil))) (pa_cons (pe_callB call_isX (by rfl) T.b_isinstance (by decide +kernel) (pa_cons (pv 0) (pa_cons (pe_glob (v := .ref T.c_NothingLeft) rfl T.g_NothingLeft rfl) pa_nil))) (pa_cons (pe_callB call_isX (by rfl) T.b_isinstance (by decide +kernel) (pa_cons (pv 0) (pa_cons (pe_bltn (v := .ty "KeyError") (by rfl) T.b_KeyError (by decide +kernel) rfl) pa_nil))) pa_nil)))))))))), ?_⟩
  refine enterD h fun M ds pre _ => ?_
  obtain ⟨C, gs, i, rfl, X, k⟩ := pre
  refine do_ret (ev_lst ?_)
  refine ea_cons (ev_cb (ea_cons (ev_var rfl (ea_cons (ev_ty (ea_nil (cd_isX X isx_ty k.k1 ?_)))))))
  refine ea_cons (ev_cb (ea_cons (ev_var rfl (ea_cons (ev_adr (ea_nil (cd_isX X isx_adr k.k2 ?_)))))))
  refine ea_cons (ev_cb (ea_cons (ev_var rfl (ea_cons (ev_ty (ea_nil (cd_isX X isx_ty k.k3 ?_)))))))
  refine ea_cons (ev_cb (ea_cons (ev_var rfl (ea_cons (ev_adr (ea_nil (cd_isX X isx_adr k.k4 ?_)))))))
  refine ea_cons (ev_cb (ea_cons (ev_var rfl (ea_cons (ev_ty (ea_nil (cd_isX X isx_ty k.k5 ?_)))))))
  refine ea_cons (ev_cb (ea_cons (ev_var rfl (ea_cons (ev_adr (ea_nil (cd_isX X isx_adr k.k6 ?_)))))))
  refine ea_cons (ev_cb (ea_cons (ev_var rfl (ea_cons (ev_ty (ea_nil (cd_isX X isx_ty k.k7 ?_)))))))
  exact ea_nil ⟨by simp, C, gs, i, rfl, k, rfl⟩
def csT {K : PySem.W.Frag} {mg : Str → Option Value} (T : Txt K mg) : List Addr := [T.c_InvalidRow, T.c_InvalidState, T.c_InvalidGroup, T.c_InvalidCommand, T.c_InvalidPart, T.c_InvalidMark, T.c_InvalidOrder, T.c_InvalidAsk, T.c_InvalidNumber, T.c_InvalidStanding, T.c_InvalidKind, T.c_InvalidWay, T.c_InvalidName, T.c_InvalidLimit, T.c_InvalidText, T.c_DuplicateNumber, T.c_DuplicateName, T.c_TooMany, T.c_WrongReader, T.c_Full, T.c_PartsDiffer, T.c_Ended, T.c_UnknownName, T.c_UnknownNumber, T.c_NothingLeft]
theorem kx_at {K : PySem.W.Frag} {mg : Str → Option Value} (T : Txt K mg) {C : Addr} {i j : Nat} {c : Addr} (hi : (csT T)[i]? = some C) (hj : (csT T)[j]? = some c) : PySem.W.kitOne K (.ref C) (.ref c) = some (i == j) := kitX_at T.kx hi hj
def allKD (i : Nat) : D := .lst ((List.range 25).map fun j => .bl (i == j))
def preAllK {K : PySem.W.Frag} {mg : Str → Option Value} (T : Txt K mg) : List D → Prop := fun ds => ∃ C gs, ∃ i : Nat, ds = [.exc C gs] ∧ XCls K C ∧ (csT T)[i]? = some C
def postAllK {K : PySem.W.Frag} {mg : Str → Option Value} (T : Txt K mg) : List D → D → Prop := fun ds d => ∃ C gs, ∃ i : Nat, ds = [.exc C gs] ∧ (csT T)[i]? = some C ∧ d = allKD i
theorem ok_all_kinds {P : Program} {w : World} {K : PySem.W.Frag} {mg : Str → Option Value} {base : Heap} (T : Txt K mg) : FnOk P w K mg base CX0 2 T.f_all_kinds T.fd_all_kinds ["_law_e"] (spD K (preAllK T) (postAllK T)) := by
  refine T.F_all_kinds.ok sc_all_kinds (spD_len fun ds ⟨C, gs, i, e, _⟩ => by rw [e]; rfl) (fun cdv A outer s H vs Q E hr h => ?_)
  refine ⟨_, (pss_cons (ps_set (i := 1) sc_all_kinds.nd rfl (Or.inl rfl) (pe_lst (pa_cons (pe_callB call_isX (by rfl) T.b_isinstance (by decide +kernel) (pa_cons (pv 0) (pa_cons (pe_glob (v := .ref T.c_InvalidRow) rfl T.g_InvalidRow rfl) pa_nil))) (pa_cons (pe_callB call_isX (by rfl) T.b_isinstance (by decide +kernel) (pa_cons (pv 0) (pa_cons (pe_glob (v := .ref T.c_InvalidState) rfl T.g_InvalidState rfl) pa_nil))) (pa_cons (pe_callB call_isX (by rfl) T.b_isinstance (by decide +kernel) (pa_cons (pv 0) (pa_cons (pe_glob (v := .ref T.c_InvalidGroup) rfl T.g_InvalidGroup rfl) pa_nil))) (pa_cons (pe_callB call_isX (by rfl) T.b_isinstance (by decide +kernel) (pa_cons (pv 0) (pa_cons (pe_glob (v := .ref T.c_InvalidCommand) rfl T.g_InvalidCommand rfl) pa_nil))) (pa_cons (pe_callB call_isX (by rfl) T.b_isinstance (by decide +kernel) (pa_cons (pv 0) (pa_cons (pe_glob (v := .ref T.c_InvalidPart) rfl T.g_InvalidPart rfl) pa_nil))) (pa_cons (pe_callB call_isX (by rfl) T.b_isinstance (by decide +kernel) (pa_cons (pv 0) (pa_cons (pe_glob (v := .ref T.c_InvalidMark) rfl T.g_InvalidMark rfl) pa_nil))) pa_nil))))))))
    (pss_cons (ps_set (i := 1) sc_all_kinds.nd rfl (Or.inl rfl) (pe_op op_cat (pv 1) (pe_lst (pa_cons (pe_callB call_isX (by rfl) T.b_isinstance (by decide +kernel) (pa_cons (pv 0) (pa_cons (pe_glob (v := .ref T.c_InvalidOrder) rfl T.g_InvalidOrder rfl) pa_nil))) (pa_cons (pe_callB call_isX (by rfl) T.b_isinstance (by decide +kernel) (pa_cons (pv 0) (pa_cons (pe_glob (v := .ref T.c_InvalidAsk) rfl T.g_InvalidAsk rfl) pa_nil))) (pa_cons (pe_callB call_isX (by rfl) T.b_isinstance (by decide +kernel) (pa_cons (pv 0) (pa_cons (pe_glob (v := .ref T.c_InvalidNumber) rfl T.g_InvalidNumber rfl) pa_nil))) (pa_cons (pe_callB call_isX (by rfl) T.b_isinstance (by decide +kernel) (pa_cons (pv 0) (pa_cons (pe_glob (v := .ref T.c_InvalidStanding) rfl T.g_InvalidStanding rfl) pa_nil))) (pa_cons (pe_callB call_isX (by rfl) T.b_isinstance (by decide +kernel) (pa_cons (pv 0) (pa_cons (pe_glob (v := .ref T.c_InvalidKind) rfl T.g_InvalidKind rfl) pa_nil))) (pa_cons (pe_callB call_isX (by rfl) T.b_isinstance (by decide +kernel) (pa_cons (pv 0) (pa_cons (pe_glob (v := .ref T.c_InvalidWay) rfl T.g_InvalidWay rfl) pa_nil))) pa_nil)))))))))
    (pss_cons (ps_set (i := 1) sc_all_kinds.nd rfl (Or.inl rfl) (pe_op op_cat (pv 1) (pe_lst (pa_cons (pe_callB call_isX (by rfl) T.b_isinstance (by decide +kernel) (pa_cons (pv 0) (pa_cons (pe_glob (v := .ref T.c_InvalidName) rfl T.g_InvalidName rfl) pa_nil))) (pa_cons (pe_callB call_isX (by rfl) T.b_isinstance (by decide +kernel) (pa_cons (pv 0) (pa_cons (pe_glob (v := .ref T.c_InvalidLimit) rfl T.g_InvalidLimit rfl) pa_nil))) (pa_cons (pe_callB call_isX (by rfl) T.b_isinstance (by decide +kernel) (pa_cons (pv 0) (pa_cons (pe_glob (v := .ref T.c_InvalidText) rfl T.g_InvalidText rfl) pa_nil))) (pa_cons (pe_callB call_isX (by rfl) T.b_isinstance (by decide +kernel) (pa_cons (pv 0) (pa_cons (pe_glob (v := .ref T.c_DuplicateNumber) rfl T.g_DuplicateNumber rfl) pa_nil))) (pa_cons (pe_callB call_isX (by rfl) T.b_isinstance (by decide +kernel) (pa_cons (pv 0) (pa_cons (pe_glob (v := .ref T.c_DuplicateName) rfl T.g_DuplicateName rfl) pa_nil))) (pa_cons (pe_callB call_isX (by rfl) T.b_isinstance (by decide +kernel) (pa_cons (pv 0) (pa_cons (pe_glob (v := .ref T.c_TooMany) rfl T.g_TooMany rfl) pa_nil))) pa_nil)))))))))
    (pss_cons (ps_set (i := 1) sc_all_kinds.nd rfl (Or.inl rfl) (pe_op op_cat (pv 1) (pe_lst (pa_cons (pe_callB call_isX (by rfl) T.b_isinstance (by decide +kernel) (pa_cons (pv 0) (pa_cons (pe_glob (v := .ref T.c_WrongReader) rfl T.g_WrongReader rfl) pa_nil))) (pa_cons (pe_callB call_isX (by rfl) T.b_isinstance (by decide +kernel) (pa_cons (pv 0) (pa_cons (pe_glob (v := .ref T.c_Full) rfl T.g_Full rfl) pa_nil))) (pa_cons (pe_callB call_isX (by rfl) T.b_isinstance (by decide +kernel) (pa_cons (pv 0) (pa_cons (pe_glob (v := .ref T.c_PartsDiffer) rfl T.g_PartsDiffer rfl) pa_nil))) (pa_cons (pe_callB call_isX (by rfl) T.b_isinstance (by decide +kernel) (pa_cons (pv 0) (pa_cons (pe_glob (v := .ref T.c_Ended) rfl T.g_Ended rfl) pa_nil))) (pa_cons (pe_callB call_isX (by rfl) T.b_isinstance (by decide +kernel) (pa_cons (pv 0) (pa_cons (pe_glob (v := .ref T.c_UnknownName) rfl T.g_UnknownName rfl) pa_nil))) (pa_cons (pe_callB call_isX (by rfl) T.b_isinstance (by decide +kernel) (pa_cons (pv 0) (pa_cons (pe_glob (v := .ref T.c_UnknownNumber) rfl T.g_UnknownNumber rfl) pa_nil))) pa_nil)))))))))
    (pss_one (ps_ret (pe_op op_cat (pv 1) (pe_lst (pa_cons (pe_callB call_isX (by rfl) T.b_isinstance (by decide +kernel) (pa_cons (pv 0) (pa_cons (pe_glob (v := .ref T.c_NothingLeft) rfl T.g_NothingLeft rfl) pa_nil))) pa_nil))))))))), ?_⟩
  refine enterD h fun M ds pre _ => ?_
  obtain ⟨C, gs, i, rfl, X, hi⟩ := pre
  have isA : ∀ {c : Addr} (j : Nat) {P : D → Prop}, (csT T)[j]? = some c → P (.bl (i == j)) → CallD K (rIsX K) [.exc C gs, .adr c] P := by
    intro c j P hj p
    exact cd_isX (F := ⟨K, none, M, H, E, 0, []⟩) X isx_adr (kx_at T hi hj) p
  refine do_let (.lst ((List.range 6).map fun j => .bl (i == j))) (ev_lst ?_) ?_
  · refine ea_cons (ev_cb (ea_cons (ev_var rfl (ea_cons (ev_adr (ea_nil (isA 0 rfl ?_)))))))
    refine ea_cons (ev_cb (ea_cons (ev_var rfl (ea_cons (ev_adr (ea_nil (isA 1 rfl ?_)))))))
    refine ea_cons (ev_cb (ea_cons (ev_var rfl (ea_cons (ev_adr (ea_nil (isA 2 rfl ?_)))))))
    refine ea_cons (ev_cb (ea_cons (ev_var rfl (ea_cons (ev_adr (ea_nil (isA 3 rfl ?_)))))))
    refine ea_cons (ev_cb (ea_cons (ev_var rfl (ea_cons (ev_adr (ea_nil (isA 4 rfl ?_)))))))
    refine ea_cons (ev_cb (ea_cons (ev_var rfl (ea_cons (ev_adr (ea_nil (isA 5 rfl ?_)))))))
    exact ea_nil ⟨by simp, rfl⟩
  refine do_let (.lst ((List.range 12).map fun j => .bl (i == j))) (ev_op (ev_var rfl (ev_lst ?_))) ?_
  · refine ea_cons (ev_cb (ea_cons (ev_var rfl (ea_cons (ev_adr (ea_nil (isA 6 rfl ?_)))))))
    refine ea_cons (ev_cb (ea_cons (ev_var rfl (ea_cons (ev_adr (ea_nil (isA 7 rfl ?_)))))))
    refine ea_cons (ev_cb (ea_cons (ev_var rfl (ea_cons (ev_adr (ea_nil (isA 8 rfl ?_)))))))
    refine ea_cons (ev_cb (ea_cons (ev_var rfl (ea_cons (ev_adr (ea_nil (isA 9 rfl ?_)))))))
    refine ea_cons (ev_cb (ea_cons (ev_var rfl (ea_cons (ev_adr (ea_nil (isA 10 rfl ?_)))))))
    refine ea_cons (ev_cb (ea_cons (ev_var rfl (ea_cons (ev_adr (ea_nil (isA 11 rfl ?_)))))))
    exact ea_nil ⟨by simp, od_cat (by simp) rfl⟩
  refine do_let (.lst ((List.range 18).map fun j => .bl (i == j))) (ev_op (ev_var rfl (ev_lst ?_))) ?_
  · refine ea_cons (ev_cb (ea_cons (ev_var rfl (ea_cons (ev_adr (ea_nil (isA 12 rfl ?_)))))))
    refine ea_cons (ev_cb (ea_cons (ev_var rfl (ea_cons (ev_adr (ea_nil (isA 13 rfl ?_)))))))
    refine ea_cons (ev_cb (ea_cons (ev_var rfl (ea_cons (ev_adr (ea_nil (isA 14 rfl ?_)))))))
    refine ea_cons (ev_cb (ea_cons (ev_var rfl (ea_cons (ev_adr (ea_nil (isA 15 rfl ?_)))))))
    refine ea_cons (ev_cb (ea_cons (ev_var rfl (ea_cons (ev_adr (ea_nil (isA 16 rfl ?_)))))))
    refine ea_cons (ev_cb (ea_cons (ev_var rfl (ea_cons (ev_adr (ea_nil (isA 17 rfl ?_)))))))
    exact ea_nil ⟨by simp, od_cat (by simp) rfl⟩
  refine do_let (.lst ((List.range 24).map fun j => .bl (i == j))) (ev_op (ev_var rfl (ev_lst ?_))) ?_
  · refine ea_cons (ev_cb (ea_cons (ev_var rfl (ea_cons (ev_adr (ea_nil (isA 18 rfl ?_)))))))
    refine ea_cons (ev_cb (ea_cons (ev_var rfl (ea_cons (ev_adr (ea_nil (isA 19 rfl ?_)))))))
    refine ea_cons (ev_cb (ea_cons (ev_var rfl (ea_cons (ev_adr (ea_nil (isA 20 rfl ?_)))))))
    refine ea_cons (ev_cb (ea_cons (ev_var rfl (ea_cons (ev_adr (ea_nil (isA 21 rfl ?_)))))))
    refine ea_cons (ev_cb (ea_cons (ev_var rfl (ea_cons (ev_adr (ea_nil (isA 22 rfl ?_)))))))
    refine ea_cons (ev_cb (ea_cons (ev_var rfl (ea_cons (ev_adr (ea_nil (isA 23 rfl ?_)))))))
    exact ea_nil ⟨by simp, od_cat (by simp) rfl⟩
  refine do_ret (ev_op (ev_var rfl (ev_lst ?_)))
  refine ea_cons (ev_cb (ea_cons (ev_var rfl (ea_cons (ev_adr (ea_nil (isA 24 rfl ?_)))))))
  exact ea_nil ⟨by simp, od_cat (by simp) ⟨C, gs, i, rfl, hi, rfl⟩⟩

end Pf

namespace Pf
open PySem L2 RZ
local macro_rules | `(tactic| walk_at "ev") => `(tactic| first
  | ((with_reducible refine' ev_var ?h ?_); (case h => rfl))
  | with_reducible refine ev_int ?_
  | with_reducible refine ev_bl ?_
  | with_reducible refine ev_str ?_
  | with_reducible refine ev_non ?_
  | with_reducible refine ev_ty ?_
  | with_reducible refine ev_op ?_
  | with_reducible refine ev_un ?_
  | with_reducible refine ev_chain ?_
  | with_reducible refine ev_if ?_
  | with_reducible refine ev_and ?_
  | with_reducible refine ev_or ?_
  | with_reducible refine ev_not ?_
  | with_reducible refine ev_lst ?_
  | with_reducible refine ev_tup ?_
  | with_reducible refine ea_nil ?_
  | with_reducible refine ea_cons ?_
  | with_reducible refine ev_cb ?_
  | with_reducible refine et_test ?_
  | with_reducible refine et_B ?_
  | with_reducible refine et_and ?_
  | with_reducible refine et_or ?_
  | with_reducible refine et_not ?_
  | with_reducible refine et_yes ?_
  | with_reducible refine eo_none ?_
  | with_reducible refine eo_some ?_
  | with_reducible refine ev_slS ?_
  | with_reducible refine od_int ?_
  | with_reducible refine od_bl ?_
  | with_reducible refine od_eq_int ?_
  | with_reducible refine od_ne_int ?_
  | with_reducible refine od_eq_bl ?_
  | with_reducible refine od_ne_bl ?_
  | with_reducible refine od_eq_str ?_
  | with_reducible refine od_ne_str ?_
  | with_reducible refine od_leS ?_
  | with_reducible refine ud_isN ?_
  | with_reducible refine ud_notN ?_
  | with_reducible refine do_seq ?_
  | with_reducible refine do_set ?_
  | with_reducible refine do_ret ?_
  | with_reducible refine do_retN ?_
  | with_reducible refine do_if ?_
  | with_reducible refine do_next ?_
  | with_reducible refine tg_name ?_
  | with_reducible refine tgs_nil ?_
  | with_reducible refine tgs_cons ?_)
abbrev e1 (c : Addr) (f n : Str) (x : D) : D := .exc c [(f, x), (("code" : Str), .str n)]
abbrev e0 (c : Addr) (n : Str) : D := .exc c [(("code" : Str), .str n)]
abbrev atsD {K : PySem.W.Frag} {mg : Str → Option Value} (T : Txt K mg) (x : D) : List D := [e1 T.c_InvalidRow "at" "InvalidRow" x, e1 T.c_InvalidState "at" "InvalidState" x, e1 T.c_InvalidGroup "at" "InvalidGroup" x, e1 T.c_InvalidCommand "at" "InvalidCommand" x]
abbrev givD {K : PySem.W.Frag} {mg : Str → Option Value} (T : Txt K mg) (x : D) : List D := [e1 T.c_InvalidPart "given" "InvalidPart" x, e1 T.c_InvalidMark "given" "InvalidMark" x, e1 T.c_InvalidOrder "given" "InvalidOrder" x, e1 T.c_InvalidAsk "given" "InvalidAsk" x, e1 T.c_InvalidNumber "given" "InvalidNumber" x, e1 T.c_InvalidStanding "given" "InvalidStanding" x, e1 T.c_InvalidKind "given" "InvalidKind" x, e1 T.c_InvalidWay "given" "InvalidWay" x, e1 T.c_InvalidName "given" "InvalidName" x, e1 T.c_InvalidLimit "given" "InvalidLimit" x]
abbrev oth4D {K : PySem.W.Frag} {mg : Str → Option Value} (T : Txt K mg) (x : D) : List D := [e1 T.c_InvalidText "line" "InvalidText" x, e1 T.c_DuplicateNumber "number" "DuplicateNumber" x, e1 T.c_DuplicateName "name" "DuplicateName" x, e1 T.c_TooMany "most" "TooMany" x]
abbrev oth8D {K : PySem.W.Frag} {mg : Str → Option Value} (T : Txt K mg) (x : D) : List D := [e1 T.c_InvalidText "line" "InvalidText" x, e1 T.c_DuplicateNumber "number" "DuplicateNumber" x, e1 T.c_DuplicateName "name" "DuplicateName" x, e1 T.c_TooMany "most" "TooMany" x, e1 T.c_WrongReader "first" "WrongReader" x, e1 T.c_Full "limit" "Full" x, e0 T.c_PartsDiffer "PartsDiffer", e0 T.c_Ended "Ended"]
abbrev misD {K : PySem.W.Frag} {mg : Str → Option Value} (T : Txt K mg) (x : D) : List D := [e1 T.c_UnknownName "name" "UnknownName" x, e1 T.c_UnknownNumber "number" "UnknownNumber" x]
abbrev everyD {K : PySem.W.Frag} {mg : Str → Option Value} (T : Txt K mg) (x : D) : List D := [e1 T.c_InvalidRow "at" "InvalidRow" x, e1 T.c_InvalidState "at" "InvalidState" x, e1 T.c_InvalidGroup "at" "InvalidGroup" x, e1 T.c_InvalidCommand "at" "InvalidCommand" x, e1 T.c_InvalidPart "given" "InvalidPart" x, e1 T.c_InvalidMark "given" "InvalidMark" x, e1 T.c_InvalidOrder "given" "InvalidOrder" x, e1 T.c_InvalidAsk "given" "InvalidAsk" x, e1 T.c_InvalidNumber "given" "InvalidNumber" x, e1 T.c_InvalidStanding "given" "InvalidStanding" x, e1 T.c_InvalidKind "given" "InvalidKind" x, e1 T.c_InvalidWay "given" "InvalidWay" x, e1 T.c_InvalidName "given" "InvalidName" x, e1 T.c_InvalidLimit "given" "InvalidLimit" x, e1 T.c_InvalidText "line" "InvalidText" x, e1 T.c_DuplicateNumber "number" "DuplicateNumber" x, e1 T.c_DuplicateName "name" "DuplicateName" x, e1 T.c_TooMany "most" "TooMany" x, e1 T.c_WrongReader "first" "WrongReader" x, e1 T.c_Full "limit" "Full" x, e0 T.c_PartsDiffer "PartsDiffer", e0 T.c_Ended "Ended", e1 T.c_UnknownName "name" "UnknownName" x, e1 T.c_UnknownNumber "number" "UnknownNumber" x, e0 T.c_NothingLeft "NothingLeft"]
abbrev namesZ : List Str := ["InvalidRow", "InvalidState", "InvalidGroup", "InvalidCommand", "InvalidPart", "InvalidMark", "InvalidOrder", "InvalidAsk", "InvalidNumber", "InvalidStanding", "InvalidKind", "InvalidWay", "InvalidName", "InvalidLimit", "InvalidText", "DuplicateNumber", "DuplicateName", "TooMany", "WrongReader", "Full", "PartsDiffer", "Ended", "UnknownName", "UnknownNumber", "NothingLeft"]
theorem ats_at {K : PySem.W.Frag} {mg : Str → Option Value} (T : Txt K mg) {x d : D} (h : d ∈ atsD T x) : ∃ C n, d = e1 C "at" n x ∧ XCls K C ∧ PySem.W.findIn K (.ref C) "at" = some none := by
  simp only [List.mem_cons, List.not_mem_nil, or_false] at h
  rcases h with rfl | rfl | rfl | rfl
  · exact ⟨_, _, rfl, T.xa_InvalidRow.x, T.xa_InvalidRow.no _ (by simp)⟩
  · exact ⟨_, _, rfl, T.xa_InvalidState.x, T.xa_InvalidState.no _ (by simp)⟩
  · exact ⟨_, _, rfl, T.xa_InvalidGroup.x, T.xa_InvalidGroup.no _ (by simp)⟩
  · exact ⟨_, _, rfl, T.xa_InvalidCommand.x, T.xa_InvalidCommand.no _ (by simp)⟩
theorem giv_at {K : PySem.W.Frag} {mg : Str → Option Value} (T : Txt K mg) {x d : D} (h : d ∈ givD T x) : ∃ C n, d = e1 C "given" n x ∧ XCls K C ∧ PySem.W.findIn K (.ref C) "given" = some none := by
  simp only [List.mem_cons, List.not_mem_nil, or_false] at h
  rcases h with rfl | rfl | rfl | rfl | rfl | rfl | rfl | rfl | rfl | rfl
  · exact ⟨_, _, rfl, T.xa_InvalidPart.x, T.xa_InvalidPart.no _ (by simp)⟩
  · exact ⟨_, _, rfl, T.xa_InvalidMark.x, T.xa_InvalidMark.no _ (by simp)⟩
  · exact ⟨_, _, rfl, T.xa_InvalidOrder.x, T.xa_InvalidOrder.no _ (by simp)⟩
  · exact ⟨_, _, rfl, T.xa_InvalidAsk.x, T.xa_InvalidAsk.no _ (by simp)⟩
  · exact ⟨_, _, rfl, T.xa_InvalidNumber.x, T.xa_InvalidNumber.no _ (by simp)⟩
  · exact ⟨_, _, rfl, T.xa_InvalidStanding.x, T.xa_InvalidStanding.no _ (by simp)⟩
  · exact ⟨_, _, rfl, T.xa_InvalidKind.x, T.xa_InvalidKind.no _ (by simp)⟩
  · exact ⟨_, _, rfl, T.xa_InvalidWay.x, T.xa_InvalidWay.no _ (by simp)⟩
  · exact ⟨_, _, rfl, T.xa_InvalidName.x, T.xa_InvalidName.no _ (by simp)⟩
  · exact ⟨_, _, rfl, T.xa_InvalidLimit.x, T.xa_InvalidLimit.no _ (by simp)⟩
theorem e1_code {f n : Str} {x : D} (h : (("code" : Str) == f) = false) : List.lookup ("code" : Str) [(f, x), (("code" : Str), D.str n)] = some (D.str n) := by
  simp [List.lookup, h]
theorem e1_fld {f n : Str} {x : D} : List.lookup f [(f, x), (("code" : Str), D.str n)] = some x := by
  simp [List.lookup]
theorem e0_code {n : Str} : List.lookup ("code" : Str) [(("code" : Str), D.str n)] = some (D.str n) := by
  simp [List.lookup]
theorem every_at {K : PySem.W.Frag} {mg : Str → Option Value} (T : Txt K mg) {x d : D} {i : Nat} (h : (everyD T x)[i]? = some d) : ∃ C gs n, d = .exc C gs ∧ XCls K C ∧ PySem.W.findIn K (.ref C) "code" = some none ∧ List.lookup ("code" : Str) gs = some (D.str n) ∧ (csT T)[i]? = some C ∧ namesZ[i]? = some n := by
  match i, h with
  | 0, h =>
    cases h
    exact ⟨_, _, _, rfl, T.xa_InvalidRow.x, T.xa_InvalidRow.no _ (by simp), e1_code (by decide +kernel), rfl, rfl⟩
  | 1, h =>
    cases h
    exact ⟨_, _, _, rfl, T.xa_InvalidState.x, T.xa_InvalidState.no _ (by simp), e1_code (by decide +kernel), rfl, rfl⟩
  | 2, h =>
    cases h
    exact ⟨_, _, _, rfl, T.xa_InvalidGroup.x, T.xa_InvalidGroup.no _ (by simp), e1_code (by decide +kernel), rfl, rfl⟩
  | 3, h =>
    cases h
    exact ⟨_, _, _, rfl, T.xa_InvalidCommand.x, T.xa_InvalidCommand.no _ (by simp), e1_code (by decide +kernel), rfl, rfl⟩
  | 4, h =>
    cases h
    exact ⟨_, _, _, rfl, T.xa_InvalidPart.x, T.xa_InvalidPart.no _ (by simp), e1_code (by decide +kernel), rfl, rfl⟩
  | 5, h =>
    cases h
    exact ⟨_, _, _, rfl, T.xa_InvalidMark.x, T.xa_InvalidMark.no _ (by simp), e1_code (by decide +kernel), rfl, rfl⟩
  | 6, h =>
    cases h
    exact ⟨_, _, _, rfl, T.xa_InvalidOrder.x, T.xa_InvalidOrder.no _ (by simp), e1_code (by decide +kernel), rfl, rfl⟩
  | 7, h =>
    cases h
    exact ⟨_, _, _, rfl, T.xa_InvalidAsk.x, T.xa_InvalidAsk.no _ (by simp), e1_code (by decide +kernel), rfl, rfl⟩
  | 8, h =>
    cases h
    exact ⟨_, _, _, rfl, T.xa_InvalidNumber.x, T.xa_InvalidNumber.no _ (by simp), e1_code (by decide +kernel), rfl, rfl⟩
  | 9, h =>
    cases h
    exact ⟨_, _, _, rfl, T.xa_InvalidStanding.x, T.xa_InvalidStanding.no _ (by simp), e1_code (by decide +kernel), rfl, rfl⟩
  | 10, h =>
    cases h
    exact ⟨_, _, _, rfl, T.xa_InvalidKind.x, T.xa_InvalidKind.no _ (by simp), e1_code (by decide +kernel), rfl, rfl⟩
  | 11, h =>
    cases h
    exact ⟨_, _, _, rfl, T.xa_InvalidWay.x, T.xa_InvalidWay.no _ (by simp), e1_code (by decide +kernel), rfl, rfl⟩
  | 12, h =>
    cases h
    exact ⟨_, _, _, rfl, T.xa_InvalidName.x, T.xa_InvalidName.no _ (by simp), e1_code (by decide +kernel), rfl, rfl⟩
  | 13, h =>
    cases h
    exact ⟨_, _, _, rfl, T.xa_InvalidLimit.x, T.xa_InvalidLimit.no _ (by simp), e1_code (by decide +kernel), rfl, rfl⟩
  | 14, h =>
    cases h
    exact ⟨_, _, _, rfl, T.xa_InvalidText.x, T.xa_InvalidText.no _ (by simp), e1_code (by decide +kernel), rfl, rfl⟩
  | 15, h =>
    cases h
    exact ⟨_, _, _, rfl, T.xa_DuplicateNumber.x, T.xa_DuplicateNumber.no _ (by simp), e1_code (by decide +kernel), rfl, rfl⟩
  | 16, h =>
    cases h
    exact ⟨_, _, _, rfl, T.xa_DuplicateName.x, T.xa_DuplicateName.no _ (by simp), e1_code (by decide +kernel), rfl, rfl⟩
  | 17, h =>
    cases h
    exact ⟨_, _, _, rfl, T.xa_TooMany.x, T.xa_TooMany.no _ (by simp), e1_code (by decide +kernel), rfl, rfl⟩
  | 18, h =>
    cases h
    exact ⟨_, _, _, rfl, T.xa_WrongReader.x, T.xa_WrongReader.no _ (by simp), e1_code (by decide +kernel), rfl, rfl⟩
  | 19, h =>
    cases h
    exact ⟨_, _, _, rfl, T.xa_Full.x, T.xa_Full.no _ (by simp), e1_code (by decide +kernel), rfl, rfl⟩
  | 20, h =>
    cases h
    exact ⟨_, _, _, rfl, T.xa_PartsDiffer.x, T.xa_PartsDiffer.no _ (by simp), e0_code, rfl, rfl⟩
  | 21, h =>
    cases h
    exact ⟨_, _, _, rfl, T.xa_Ended.x, T.xa_Ended.no _ (by simp), e0_code, rfl, rfl⟩
  | 22, h =>
    cases h
    exact ⟨_, _, _, rfl, T.xa_UnknownName.x, T.xa_UnknownName.no _ (by simp), e1_code (by decide +kernel), rfl, rfl⟩
  | 23, h =>
    cases h
    exact ⟨_, _, _, rfl, T.xa_UnknownNumber.x, T.xa_UnknownNumber.no _ (by simp), e1_code (by decide +kernel), rfl, rfl⟩
  | 24, h =>
    cases h
    exact ⟨_, _, _, rfl, T.xa_NothingLeft.x, T.xa_NothingLeft.no _ (by simp), e0_code, rfl, rfl⟩
  | n + 25, h => cases h
theorem peXfl (K : PySem.W.Frag) {X : Cx} {e : Expr} {te : TE} {pos : Pos} {n : Str} (he : PE X e te) (hb : attributeBase e n X.env (eval e X.env) = eval e X.env := by rfl) (h : X.K = K := by rfl) : PE X (.Attribute e n pos) (tXfl K n te) := by subst h; exact pe_xfl he hb
section
variable {F : Fm} {δ : List SD} {C : Addr} {f n : Str} {x : D} {i : Nat} {E : XK} {P : D → Prop}
theorem ev_x1 (hx : plD x = true) (hd : dep x ≤ 4) (h : δ[i]? = some (.dat x)) (p : P (e1 C f n x)) : Ev F (tMakeX C 1 0 (spX F.K C (preCp 4) (postX1 n f)) gx1 E (tCons (tVar i) tNil) tNil) δ P := by
  refine ev_makeX (gD := fun ds _ => ds) (fun H v vs zs ds es r rz l1 l2 => ?_) (ea_cons (ev_var h (ea_nil (ea_nil ⟨rfl, rfl, by decide, ⟨x, rfl, hx, hd⟩, fun gs hg => ?_⟩))))
  · match vs, zs, r, rz, r.length.trans l1, rz.length.trans l2 with
    | [w], [], r, _, _, _ => exact ⟨[w], rfl, r⟩
  · obtain ⟨d, e, rfl⟩ := hg
    cases e
    exact p
theorem ev_xk (hx : plD x = true) (hd : dep x ≤ 4) (h : δ[i]? = some (.dat x)) (p : P (e1 C f n x)) : Ev F (tMakeX C 0 1 (spX F.K C (preCp 4) (postX1 n f)) gxk E tNil (tCons (tVar i) tNil)) δ P := by
  refine ev_makeX (gD := fun _ es => es) (fun H v vs zs ds es r rz l1 l2 => ?_) (ea_nil (ea_cons (ev_var h (ea_nil ⟨rfl, rfl, by decide, ⟨x, rfl, hx, hd⟩, fun gs hg => ?_⟩))))
  · match vs, zs, r, rz, r.length.trans l1, rz.length.trans l2 with
    | [], [w], _, rz, _, _ => exact ⟨[w], rfl, rz⟩
  · obtain ⟨d, e, rfl⟩ := hg
    cases e
    exact p
theorem ev_x0 (p : P (e0 C n)) : Ev F (tMakeX C 0 0 (spX F.K C (fun ds => ds = []) (postX0 n)) gx0 E tNil tNil) δ P := by
  refine ev_makeX (gD := fun ds _ => ds) (fun H v vs zs ds es r rz l1 l2 => ?_) (ea_nil (ea_nil ⟨rfl, rfl, by decide, rfl, fun gs hg => ?_⟩))
  · match vs, zs, r, rz, r.length.trans l1, rz.length.trans l2 with
    | [], [], r, _, _, _ => exact ⟨[], rfl, r⟩
  · have e : gs = [(("code" : Str), D.str n)] := hg
    subst e
    exact p
end
theorem plL_rep {x : D} (h : plD x = true) : ∀ n, plL (List.replicate n x) = true
  | 0 => by simp [plL]
  | n + 1 => by rw [List.replicate_succ]; simp only [plL, h, plL_rep h n, Bool.and_self]
theorem depL_rep {x : D} : ∀ n, depL (List.replicate n x) ≤ dep x
  | 0 => by simp [depL]
  | n + 1 => by
    rw [List.replicate_succ]
    simp only [depL]
    have := depL_rep (x := x) n
    omega
theorem some_inj' {a b : Bool} {o : Option Bool} (h : o = some a) (h' : o = some b) : a = b := Option.some.inj (h.symm.trans h')
theorem kinD_uniq {K : PySem.W.Frag} {pe mi nl c : Addr} {i i' : Nat} (h : KindsAt K pe mi nl c i) (h' : KindsAt K pe mi nl c i') : kinD i' = kinD i := by
  unfold kinD
  rw [some_inj' h'.k4 h.k4, some_inj' h'.k1 h.k1, some_inj' h'.k3 h.k3, some_inj' h'.k5 h.k5]
theorem allKD_uniq {K : PySem.W.Frag} {mg : Str → Option Value} (T : Txt K mg) {C : Addr} {i i' : Nat} (h : (csT T)[i]? = some C) (h' : (csT T)[i']? = some C) : allKD i' = allKD i := by
  unfold allKD
  congr 1
  refine List.map_congr_left fun j hj => ?_
  have hj := List.mem_range.mp hj
  obtain ⟨c, hc⟩ : ∃ c, (csT T)[j]? = some c := ⟨(csT T)[j]'(by simpa [csT] using hj), by simp [csT, hj]⟩
  rw [some_inj' (kx_at T h' hc) (kx_at T h hc)]
theorem kin_due (k : Nat) (b : Bool) (h : b = (decide (21 < k) && decide (k < 24))) : D.lst [.bl (decide ((k : Int) < 22)), .bl (decide ((k : Int) < 22)), .bl (decide ((21 : Int) < k)), .bl b, .bl (decide ((k : Int) = 24)), .bl (decide ((k : Int) = 24)), .bl false] = kinD k := by
  have e1 : decide ((k : Int) < 22) = decide (k < 22) := decide_eq_decide.mpr (by omega)
  have e2 : decide ((21 : Int) < k) = decide (21 < k) := decide_eq_decide.mpr (by omega)
  have e3 : decide ((k : Int) = 24) = (k == 24) := by
    rw [Bool.eq_iff_iff]
    simp
    omega
  unfold kinD
  rw [h, e1, e2, e3]
theorem kin_pl (i : Nat) : plD (kinD i) = true := by simp [kinD, plD, plL]
theorem kin_dep (i : Nat) : dep (kinD i) ≤ 4 := by simp [kinD, dep, depL]
theorem rep_more {x : D} {i : Nat} : List.replicate i x ++ [x] = List.replicate (i + 1) x := by rw [List.replicate_succ']
theorem ok_law {P : Program} {w : World} {K : PySem.W.Frag} {mg : Str → Option Value} {base : Heap} (T : Txt K mg) : FnOk P w K mg base CX0 18 T.f_law T.fd_law ["_law_script"] (spLaw K) := by
  refine T.F_law.ok sc_law (fun vs H Q E h => ?_) (fun cdv A outer s H vs Q E hr h => ?_)
  · obtain ⟨a, ns, rfl, _⟩ := h
    rfl
  refine ⟨_, (pss_cons (ps_set (i := 1) sc_law.nd rfl (Or.inl rfl) (pe_call (ok_open T) (hr.mono (by decide)) rfl T.g_open T.k_open T.bd_open .nil pass0 (pa_cons (pv 0) pa_nil)))
    (pss_cons (ps_for PassesOwn.never rfl (pi_range1 (by rfl) T.b_range (pa_cons pe_int pa_nil)) (pg_name (i := 2) sc_law.nd rfl (Or.inl rfl))
      (pss_cons (ps_set (i := 3) sc_law.nd rfl (Or.inl rfl) (pe_call (ok_of T) (hr.mono (by decide)) rfl T.g_of T.k_of T.bd_of .nil pass0 (pa_cons (pv 1) (pa_cons (pe_lst (pa_cons pe_non (pa_cons pe_int (pa_cons (pe_call (ok_draw T) (hr.mono (by decide)) rfl T.g_draw T.k_draw T.bd_draw .nil pass0 (pa_cons (pv 1) (pa_cons (pe_op op_pow pe_int pe_int) pa_nil))) (pa_cons pe_str (pa_cons (pe_tup (pa_cons pe_int (pa_cons pe_str pa_nil))) (pa_cons (pe_lst (pa_cons pe_int pa_nil)) (pa_cons pe_bl pa_nil)))))))) pa_nil))))
      (pss_cons (ps_set (i := 4) sc_law.nd rfl (Or.inl rfl) (pe_lst (pa_cons (pe_makeX T.xa_InvalidRow.x T.xa_InvalidRow.iC T.xa_InvalidRow.tI (ok_InvalidRow_init T) (hr.mono (by decide)) rfl T.g_InvalidRow (kxp_InvalidRow T) pass0 (pa_cons (pv 3) pa_nil) pk_nil) (pa_cons (pe_makeX T.xa_InvalidState.x T.xa_InvalidState.iC T.xa_InvalidState.tI (ok_InvalidState_init T) (hr.mono (by decide)) rfl T.g_InvalidState (kxp_InvalidState T) pass0 (pa_cons (pv 3) pa_nil) pk_nil) (pa_cons (pe_makeX T.xa_InvalidGroup.x T.xa_InvalidGroup.iC T.xa_InvalidGroup.tI (ok_InvalidGroup_init T) (hr.mono (by decide)) rfl T.g_InvalidGroup (kxp_InvalidGroup T) pass0 (pa_cons (pv 3) pa_nil) pk_nil) (pa_cons (pe_makeX0 T.xa_InvalidCommand.x T.xa_InvalidCommand.iC T.xa_InvalidCommand.tI (ok_InvalidCommand_init T) (hr.mono (by decide)) rfl T.g_InvalidCommand (kxk_InvalidCommand T) pass0 (pk_cons (pv 3) pk_nil)) pa_nil))))))
      (pss_cons (ps_set (i := 5) sc_law.nd rfl (Or.inl rfl) (pe_lst (pa_cons (pe_makeX T.xa_InvalidPart.x T.xa_InvalidPart.iC T.xa_InvalidPart.tI (ok_InvalidPart_init T) (hr.mono (by decide)) rfl T.g_InvalidPart (kxp_InvalidPart T) pass0 (pa_cons (pv 3) pa_nil) pk_nil) (pa_cons (pe_makeX T.xa_InvalidMark.x T.xa_InvalidMark.iC T.xa_InvalidMark.tI (ok_InvalidMark_init T) (hr.mono (by decide)) rfl T.g_InvalidMark (kxp_InvalidMark T) pass0 (pa_cons (pv 3) pa_nil) pk_nil) (pa_cons (pe_makeX0 T.xa_InvalidOrder.x T.xa_InvalidOrder.iC T.xa_InvalidOrder.tI (ok_InvalidOrder_init T) (hr.mono (by decide)) rfl T.g_InvalidOrder (kxk_InvalidOrder T) pass0 (pk_cons (pv 3) pk_nil)) (pa_cons (pe_makeX T.xa_InvalidAsk.x T.xa_InvalidAsk.iC T.xa_InvalidAsk.tI (ok_InvalidAsk_init T) (hr.mono (by decide)) rfl T.g_InvalidAsk (kxp_InvalidAsk T) pass0 (pa_cons (pv 3) pa_nil) pk_nil) (pa_cons (pe_makeX T.xa_InvalidNumber.x T.xa_InvalidNumber.iC T.xa_InvalidNumber.tI (ok_InvalidNumber_init T) (hr.mono (by decide)) rfl T.g_InvalidNumber (kxp_InvalidNumber T) pass0 (pa_cons (pv 3) pa_nil) pk_nil) (pa_cons (pe_makeX T.xa_InvalidStanding.x T.xa_InvalidStanding.iC T.xa_InvalidStanding.tI (ok_InvalidStanding_init T) (hr.mono (by decide)) rfl T.g_InvalidStanding (kxp_InvalidStanding T) pass0 (pa_cons (pv 3) pa_nil) pk_nil) (pa_cons (pe_makeX T.xa_InvalidKind.x T.xa_InvalidKind.iC T.xa_InvalidKind.tI (ok_InvalidKind_init T) (hr.mono (by decide)) rfl T.g_InvalidKind (kxp_InvalidKind T) pass0 (pa_cons (pv 3) pa_nil) pk_nil) (pa_cons (pe_makeX T.xa_InvalidWay.x T.xa_InvalidWay.iC T.xa_InvalidWay.tI (ok_InvalidWay_init T) (hr.mono (by decide)) rfl T.g_InvalidWay (kxp_InvalidWay T) pass0 (pa_cons (pv 3) pa_nil) pk_nil) (pa_cons (pe_makeX T.xa_InvalidName.x T.xa_InvalidName.iC T.xa_InvalidName.tI (ok_InvalidName_init T) (hr.mono (by decide)) rfl T.g_InvalidName (kxp_InvalidName T) pass0 (pa_cons (pv 3) pa_nil) pk_nil) (pa_cons (pe_makeX T.xa_InvalidLimit.x T.xa_InvalidLimit.iC T.xa_InvalidLimit.tI (ok_InvalidLimit_init T) (hr.mono (by decide)) rfl T.g_InvalidLimit (kxp_InvalidLimit T) pass0 (pa_cons (pv 3) pa_nil) pk_nil) pa_nil))))))))))))
      (pss_cons (ps_set (i := 6) sc_law.nd rfl (Or.inl rfl) (pe_lst (pa_cons (pe_makeX0 T.xa_InvalidText.x T.xa_InvalidText.iC T.xa_InvalidText.tI (ok_InvalidText_init T) (hr.mono (by decide)) rfl T.g_InvalidText (kxk_InvalidText T) pass0 (pk_cons (pv 3) pk_nil)) (pa_cons (pe_makeX0 T.xa_DuplicateNumber.x T.xa_DuplicateNumber.iC T.xa_DuplicateNumber.tI (ok_DuplicateNumber_init T) (hr.mono (by decide)) rfl T.g_DuplicateNumber (kxk_DuplicateNumber T) pass0 (pk_cons (pv 3) pk_nil)) (pa_cons (pe_makeX T.xa_DuplicateName.x T.xa_DuplicateName.iC T.xa_DuplicateName.tI (ok_DuplicateName_init T) (hr.mono (by decide)) rfl T.g_DuplicateName (kxp_DuplicateName T) pass0 (pa_cons (pv 3) pa_nil) pk_nil) (pa_cons (pe_makeX0 T.xa_TooMany.x T.xa_TooMany.iC T.xa_TooMany.tI (ok_TooMany_init T) (hr.mono (by decide)) rfl T.g_TooMany (kxk_TooMany T) pass0 (pk_cons (pv 3) pk_nil)) pa_nil))))))
      (pss_cons (ps_set (i := 6) sc_law.nd rfl (Or.inl rfl) (pe_op op_cat (pv 6) (pe_lst (pa_cons (pe_makeX0 T.xa_WrongReader.x T.xa_WrongReader.iC T.xa_WrongReader.tI (ok_WrongReader_init T) (hr.mono (by decide)) rfl T.g_WrongReader (kxk_WrongReader T) pass0 (pk_cons (pv 3) pk_nil)) (pa_cons (pe_makeX0 T.xa_Full.x T.xa_Full.iC T.xa_Full.tI (ok_Full_init T) (hr.mono (by decide)) rfl T.g_Full (kxk_Full T) pass0 (pk_cons (pv 3) pk_nil)) (pa_cons (pe_makeX0 T.xa_PartsDiffer.x T.xa_PartsDiffer.iC T.xa_PartsDiffer.tI (ok_PartsDiffer_init T) (hr.mono (by decide)) rfl T.g_PartsDiffer (kx0_PartsDiffer T) pass0 pk_nil) (pa_cons (pe_makeX0 T.xa_Ended.x T.xa_Ended.iC T.xa_Ended.tI (ok_Ended_init T) (hr.mono (by decide)) rfl T.g_Ended (kx0_Ended T) pass0 pk_nil) pa_nil)))))))
      (pss_cons (ps_set (i := 7) sc_law.nd rfl (Or.inl rfl) (pe_lst (pa_cons (pe_makeX0 T.xa_UnknownName.x T.xa_UnknownName.iC T.xa_UnknownName.tI (ok_UnknownName_init T) (hr.mono (by decide)) rfl T.g_UnknownName (kxk_UnknownName T) pass0 (pk_cons (pv 3) pk_nil)) (pa_cons (pe_makeX T.xa_UnknownNumber.x T.xa_UnknownNumber.iC T.xa_UnknownNumber.tI (ok_UnknownNumber_init T) (hr.mono (by decide)) rfl T.g_UnknownNumber (kxp_UnknownNumber T) pass0 (pa_cons (pv 3) pa_nil) pk_nil) pa_nil))))
      (pss_cons (ps_set (i := 8) sc_law.nd rfl (Or.inl rfl) (pe_op op_cat (pe_op op_cat (pe_lc (own := [("_law_e", 12)]) rfl sc_law.nd (piL K (pv 4)) (blkOk_by (N := N_law) (sc := defScope s_law) (by decide +kernel)) (fun _ _ _ _ _ => (pg_name (i := 12) sc_law.nd rfl (Or.inl rfl))) (fun _ _ _ _ _ => pts_nil) (fun _ _ _ _ _ => (peXfl K (pv 12)))) (pe_lc (own := [("_law_e", 12)]) rfl sc_law.nd (piL K (pv 5)) (blkOk_by (N := N_law) (sc := defScope s_law) (by decide +kernel)) (fun _ _ _ _ _ => (pg_name (i := 12) sc_law.nd rfl (Or.inl rfl))) (fun _ _ _ _ _ => pts_nil) (fun _ _ _ _ _ => (peXfl K (pv 12))))) (pe_lst (pa_cons (peXfl K (pe_ix (ixL K) (pv 6) pe_int (fun _ _ => rfl))) (pa_cons (peXfl K (pe_ix (ixL K) (pv 6) pe_int (fun _ _ => rfl))) (pa_cons (peXfl K (pe_ix (ixL K) (pv 6) pe_int (fun _ _ => rfl))) pa_nil))))))
      (pss_cons (ps_set (i := 8) sc_law.nd rfl (Or.inl rfl) (pe_op op_cat (pv 8) (pe_lst (pa_cons (peXfl K (pe_ix (ixL K) (pv 6) pe_int (fun _ _ => rfl))) (pa_cons (peXfl K (pe_ix (ixL K) (pv 6) pe_int (fun _ _ => rfl))) (pa_cons (peXfl K (pe_ix (ixL K) (pv 6) pe_int (fun _ _ => rfl))) (pa_cons (peXfl K (pe_ix (ixL K) (pv 7) pe_int (fun _ _ => rfl))) (pa_cons (peXfl K (pe_ix (ixL K) (pv 7) pe_int (fun _ _ => rfl))) pa_nil))))))))
      (pss_cons (ps_if (pt_not (pt_val (pe_call (ok_like T 4) (hr.mono (by decide)) rfl T.g_like T.k_like T.bd_like .nil pass0 (pa_cons (pv 8) (pa_cons (pe_op op_rep (pe_lst (pa_cons (pv 3) pa_nil)) pe_int) pa_nil))))) (pss_one (ps_ret pe_bl)) pss_nil)
      (pss_cons (ps_set (i := 9) sc_law.nd rfl (Or.inl rfl) (pe_lst (pa_cons pe_str (pa_cons pe_str (pa_cons pe_str (pa_cons pe_str (pa_cons pe_str (pa_cons pe_str (pa_cons pe_str (pa_cons pe_str (pa_cons pe_str (pa_cons pe_str (pa_cons pe_str (pa_cons pe_str (pa_cons pe_str (pa_cons pe_str (pa_cons pe_str (pa_cons pe_str (pa_cons pe_str (pa_cons pe_str (pa_cons pe_str (pa_cons pe_str (pa_cons pe_str (pa_cons pe_str (pa_cons pe_str (pa_cons pe_str (pa_cons pe_str pa_nil)))))))))))))))))))))))))))
      (pss_cons (ps_set (i := 10) sc_law.nd rfl (Or.inl rfl) (pe_op op_cat (pe_op op_cat (pe_op op_cat (pe_op op_cat (pv 4) (pv 5)) (pv 6)) (pv 7)) (pe_lst (pa_cons (pe_makeX0 T.xa_NothingLeft.x T.xa_NothingLeft.iC T.xa_NothingLeft.tI (ok_NothingLeft_init T) (hr.mono (by decide)) rfl T.g_NothingLeft (kx0_NothingLeft T) pass0 pk_nil) pa_nil))))
      (pss_cons (ps_if (pt_not (pt_val (pe_call (ok_like T 4) (hr.mono (by decide)) rfl T.g_like T.k_like T.bd_like .nil pass0 (pa_cons (pe_lc (own := [("_law_e", 12)]) rfl sc_law.nd (piL K (pv 10)) (blkOk_by (N := N_law) (sc := defScope s_law) (by decide +kernel)) (fun _ _ _ _ _ => (pg_name (i := 12) sc_law.nd rfl (Or.inl rfl))) (fun _ _ _ _ _ => pts_nil) (fun _ _ _ _ _ => (peXfl K (pv 12)))) (pa_cons (pv 9) pa_nil))))) (pss_one (ps_ret pe_bl)) pss_nil)
      (pss_cons (ps_for PassesOwn.never rfl (pi_enumA K (by rfl) T.b_enumerate (pa_cons (pv 10) pa_nil)) (pgTup K (n := 2) rfl (pgs_cons (pg_name (i := 11) sc_law.nd rfl (Or.inl rfl)) (pgs_cons (pg_name (i := 12) sc_law.nd rfl (Or.inl rfl)) pgs_nil)))
        (pss_cons (ps_set (i := 13) sc_law.nd rfl (Or.inl rfl) (pe_lst (pa_cons (pe_cmpR op_lt (pv 11) pe_int (nomark _)) (pa_cons (pe_cmpR op_lt (pv 11) pe_int (nomark _)) (pa_cons (pe_cmpR op_lt pe_int (pv 11) (nomark _)) (pa_cons (pe_chain op_lt op_lt pe_int (pv 11) pe_int) (pa_cons (pe_cmpR op_eq (pv 11) pe_int (nomark _)) (pa_cons (pe_cmpR op_eq (pv 11) pe_int (nomark _)) (pa_cons pe_bl pa_nil)))))))))
        (pss_one (ps_if (pt_not (pt_val (pe_call (ok_like T 4) (hr.mono (by decide)) rfl T.g_like T.k_like T.bd_like .nil pass0 (pa_cons (pe_call (ok_kinds_of T) (hr.mono (by decide)) rfl T.g_kinds_of T.k_kinds_of T.bd_kinds_of .nil pass0 (pa_cons (pv 12) pa_nil)) (pa_cons (pv 13) pa_nil))))) (pss_one (ps_ret pe_bl)) pss_nil))))
      (pss_one (ps_if (pt_cmpR (opNeD K hr.units) (pe_lc (own := [("_law_e", 12)]) rfl sc_law.nd (piL K (pv 10)) (blkOk_by (N := N_law) (sc := defScope s_law) (by decide +kernel)) (fun _ _ _ _ _ => (pg_name (i := 12) sc_law.nd rfl (Or.inl rfl))) (fun _ _ _ _ _ => pts_nil) (fun _ _ _ _ _ => (pe_call (ok_all_kinds T) (hr.mono (by decide)) rfl T.g_all_kinds T.k_all_kinds T.bd_all_kinds .nil pass0 (pa_cons (pv 12) pa_nil)))) (pe_lc (own := [("_law_k", 11)]) rfl sc_law.nd (pi_range1 (by rfl) T.b_range (pa_cons pe_int pa_nil)) (blkOk_by (N := N_law) (sc := defScope s_law) (by decide +kernel)) (fun _ _ _ _ _ => (pg_name (i := 11) sc_law.nd rfl (Or.inr rfl))) (fun _ _ _ _ _ => pts_nil) (fun _ _ _ _ _ => (pe_lc (own := [("_law_at_z", 14)]) rfl sc_law.nd (pi_range1 (by rfl) T.b_range (pa_cons pe_int pa_nil)) (blkOk_by (by kernel_rfl)) (fun _ _ _ _ _ => (pg_name (i := 14) sc_law.nd rfl (Or.inl rfl))) (fun _ _ _ _ _ => pts_nil) (fun _ _ _ _ _ => (pe_cmpR op_eq (pv 14) (pv 11) (nomark _)))))) (nomark _)) (pss_one (ps_ret pe_bl)) pss_nil))))))))))))))))
    (pss_one (ps_ret pe_bl)))), ?_⟩
  refine lawIn h (by decide) fun b c H1 M0 E => ?_
  refine do_seq (do_for (js := [2]) (PX := fun l => l = upto 0 4) (it_range1 (ea_cons (ev_int (ea_nil ⟨4, rfl, by decide, by decide, rfl⟩)))) (fun _ _ δ => δ = slotsL N_law) (fun _ _ => rfl) ?_ ?_)
  · rintro l i x0 δ rfl hi rfl
    refine tg_name ?_
    refine do_wk [2, 3, 4, 5, 6, 7, 8, 9, 10, 11, 12, 13] ?_
    refine do_letP (fun d => plD d = true ∧ dep d ≤ 1) (ev_ofL rfl rfl (ea_cons (ev_lst ?_))) fun x hxd => ?_
    · refine ea_cons (ev_non (ea_cons (ev_int (ea_cons (ev_draw rfl rfl (ea_cons (ev_op (ev_int (ev_int ?_)))))))))
      refine od_intC ⟨by decide, by decide, by decide⟩ (ea_nil ⟨_, rfl, by decide, by decide, fun r r0 r1 => ?_⟩)
      refine ea_cons (ev_str (ea_cons (ev_tup (ea_cons (ev_int (ea_cons (ev_str (ea_nil ⟨by simp, ?_⟩))))))))
      refine ea_cons (ev_lst (ea_cons (ev_int (ea_nil ⟨by simp, ea_cons (ev_bl (ea_nil ⟨by simp, ea_nil ⟨_, rfl, by simp, by simp, fun d hd => ?_⟩⟩))⟩))))
      simp only [List.mem_cons, List.not_mem_nil, or_false] at hd
      rcases hd with rfl | rfl | rfl | rfl | rfl | rfl | rfl <;> simp [plD, plL, dep, depL]
    obtain ⟨hx, hd1⟩ := hxd
    have hd : dep x ≤ 4 := by omega
    refine do_let (.lst (atsD T x)) (ev_lst ?_) ?_
    · repeat (first | refine ea_cons (ev_x1 hx hd rfl ?_) | refine ea_cons (ev_xk hx hd rfl ?_) | refine ea_cons (ev_x0 ?_))
      exact ea_nil ⟨by simp, rfl⟩
    refine do_let (.lst (givD T x)) (ev_lst ?_) ?_
    · repeat (first | refine ea_cons (ev_x1 hx hd rfl ?_) | refine ea_cons (ev_xk hx hd rfl ?_) | refine ea_cons (ev_x0 ?_))
      exact ea_nil ⟨by simp, rfl⟩
    refine do_let (.lst (oth4D T x)) (ev_lst ?_) ?_
    · repeat (first | refine ea_cons (ev_x1 hx hd rfl ?_) | refine ea_cons (ev_xk hx hd rfl ?_) | refine ea_cons (ev_x0 ?_))
      exact ea_nil ⟨by simp, rfl⟩
    refine do_let (.lst (oth8D T x)) (ev_op (ev_var rfl (ev_lst ?_))) ?_
    · repeat (first | refine ea_cons (ev_x1 hx hd rfl ?_) | refine ea_cons (ev_xk hx hd rfl ?_) | refine ea_cons (ev_x0 ?_))
      exact ea_nil ⟨by simp, od_cat (by simp) rfl⟩
    refine do_let (.lst (misD T x)) (ev_lst ?_) ?_
    · repeat (first | refine ea_cons (ev_x1 hx hd rfl ?_) | refine ea_cons (ev_xk hx hd rfl ?_) | refine ea_cons (ev_x0 ?_))
      exact ea_nil ⟨by simp, rfl⟩
    refine do_let (.lst (List.replicate 17 x)) (ev_op (ev_op (EvN.ev ?_))) ?_
    · refine en_lc (js := [12]) (PX := fun l => l = atsD T x) (it_list (ev_var rfl ⟨_, rfl, rfl⟩)) (fun l e => by rw [e]; simp) (by decide) (fun l i acc => acc = List.replicate i x) (fun l e => rfl) ?_ ?_
      · rintro l i d acc rfl hi rfl
        refine tg_name (et_yes ⟨fun _ => ?_, fun h => nomatch h⟩)
        obtain ⟨C, n, rfl, X, no⟩ := ats_at T (List.mem_of_getElem? hi)
        exact ev_xfl (ev_var rfl ⟨_, _, _, rfl, X, no, e1_fld, rep_more⟩)
      · rintro l ds rfl rfl
        refine EvN.ev ?_
        refine en_lc (js := [12]) (PX := fun l => l = givD T x) (it_list (ev_var rfl ⟨_, rfl, rfl⟩)) (fun l e => by rw [e]; simp) (by decide) (fun l i acc => acc = List.replicate i x) (fun l e => rfl) ?_ ?_
        · rintro l i d acc rfl hi rfl
          refine tg_name (et_yes ⟨fun _ => ?_, fun h => nomatch h⟩)
          obtain ⟨C, n, rfl, X, no⟩ := giv_at T (List.mem_of_getElem? hi)
          exact ev_xfl (ev_var rfl ⟨_, _, _, rfl, X, no, e1_fld, rep_more⟩)
        · rintro l ds rfl rfl
          refine od_cat (by simp) (ev_lst ?_)
          refine ea_cons (ev_xfl (ev_op (ev_var rfl (ev_int (od_ixL rfl ⟨_, _, _, rfl, T.xa_InvalidText.x, T.xa_InvalidText.no _ (by simp), e1_fld, ?_⟩)))))
          refine ea_cons (ev_xfl (ev_op (ev_var rfl (ev_int (od_ixL rfl ⟨_, _, _, rfl, T.xa_DuplicateNumber.x, T.xa_DuplicateNumber.no _ (by simp), e1_fld, ?_⟩)))))
          refine ea_cons (ev_xfl (ev_op (ev_var rfl (ev_int (od_ixL rfl ⟨_, _, _, rfl, T.xa_DuplicateName.x, T.xa_DuplicateName.no _ (by simp), e1_fld, ?_⟩)))))
          exact ea_nil ⟨by simp, od_cat (by simp) rfl⟩
    refine do_let (.lst (List.replicate 22 x)) (ev_op (ev_var rfl (ev_lst ?_))) ?_
    · refine ea_cons (ev_xfl (ev_op (ev_var rfl (ev_int (od_ixL rfl ⟨_, _, _, rfl, T.xa_TooMany.x, T.xa_TooMany.no _ (by simp), e1_fld, ?_⟩)))))
      refine ea_cons (ev_xfl (ev_op (ev_var rfl (ev_int (od_ixL rfl ⟨_, _, _, rfl, T.xa_WrongReader.x, T.xa_WrongReader.no _ (by simp), e1_fld, ?_⟩)))))
      refine ea_cons (ev_xfl (ev_op (ev_var rfl (ev_int (od_ixL rfl ⟨_, _, _, rfl, T.xa_Full.x, T.xa_Full.no _ (by simp), e1_fld, ?_⟩)))))
      refine ea_cons (ev_xfl (ev_op (ev_var rfl (ev_int (od_ixL rfl ⟨_, _, _, rfl, T.xa_UnknownName.x, T.xa_UnknownName.no _ (by simp), e1_fld, ?_⟩)))))
      refine ea_cons (ev_xfl (ev_op (ev_var rfl (ev_int (od_ixL rfl ⟨_, _, _, rfl, T.xa_UnknownNumber.x, T.xa_UnknownNumber.no _ (by simp), e1_fld, ?_⟩)))))
      exact ea_nil ⟨by simp, od_cat (by simp) rfl⟩
    refine do_seq (do_if (et_not (et_test (ev_like (ea_cons (ev_var rfl (ea_cons (ev_op (ev_lst (ea_cons (ev_var rfl (ea_nil ⟨by simp, ev_int (od_rep (by decide) (by decide) (by simp) ?_)⟩))))))))))))
    have pl22 : plD (.lst (List.replicate 22 x)) = true := by simp only [plD, plL_rep hx, Bool.and_true]; simp
    have dp22 : dep (.lst (List.replicate 22 x)) ≤ 4 := by
      have := depL_rep (x := x) 22
      simp only [dep]
      omega
    refine ea_nil ⟨_, .lst (List.replicate 22 x), rfl, pl22, pl22, dp22, _, rfl, ?_⟩
    rw [likeD_self _ pl22]
    refine ⟨(fun h => nomatch h), fun _ => do_next ?_⟩
    refine do_let (.lst (namesZ.map D.str)) (ev_lst ?_) ?_
    · repeat (refine ea_cons (ev_str ?_))
      exact ea_nil ⟨by simp, rfl⟩
    refine do_let (.lst (everyD T x)) ?_ ?_
    · refine ev_op (ev_op (ev_op (ev_op (ev_var rfl (ev_var rfl ?_)))))
      refine od_cat (by simp) (ev_var rfl ?_)
      refine od_cat (by simp) (ev_var rfl ?_)
      refine od_cat (by simp) (ev_lst ?_)
      exact ea_cons (ev_x0 (ea_nil ⟨by simp, od_cat (by simp) rfl⟩))
    refine do_seq (do_if (et_not (et_test (ev_like (ea_cons (EvN.ev ?_))))))
    refine en_lc (js := [12]) (PX := fun l => l = everyD T x) (it_list (ev_var rfl ⟨_, rfl, rfl⟩)) (fun l e => by rw [e]; simp) (by decide) (fun l i acc => acc = (namesZ.take i).map D.str) (fun l e => rfl) ?_ ?_
    · rintro l i d acc rfl hi rfl
      refine tg_name (et_yes ⟨fun _ => ?_, fun h => nomatch h⟩)
      obtain ⟨C, gs, n, rfl, X, no, lk, _, hn⟩ := every_at T hi
      exact ev_xfl (ev_var rfl ⟨_, _, _, rfl, X, no, lk, by rw [take_more hn, List.map_append]; rfl⟩)
    rintro l ds rfl hds
    have hds' : ds = namesZ.map D.str := hds
    subst hds'
    have plN : plD (.lst (namesZ.map D.str)) = true := by simp [plD, plL]
    refine ea_cons (ev_var rfl (ea_nil ⟨_, _, rfl, plN, plN, by simp [dep, depL], _, rfl, ?_⟩))
    rw [likeD_self _ plN]
    refine ⟨(fun h => nomatch h), fun _ => do_next ?_⟩
    refine do_seq (do_for (js := [11, 12]) (PX := fun l => l = numbered (everyD T x)) (it_enumL (ev_var rfl ⟨_, rfl, rfl⟩)) (fun _ _ δ => ∃ a b c, δ = [.un, .bag, .dat x0, .dat x, .dat (.lst (atsD T x)), .dat (.lst (givD T x)), .dat (.lst (oth8D T x)), .dat (.lst (misD T x)), .dat (.lst (List.replicate 22 x)), .dat (.lst (namesZ.map D.str)), .dat (.lst (everyD T x)), a, b, c, .un]) (fun _ _ => ⟨.un, .un, .un, rfl⟩) ?_ ?_)
    · rintro l k d δ rfl hk ⟨a, b', c', rfl⟩
      have hkl : k < 25 := by
        have := (List.getElem?_eq_some_iff.mp hk).1
        rw [numbered_len] at this
        exact this
      obtain ⟨y, hy⟩ : ∃ y, (everyD T x)[k]? = some y := ⟨(everyD T x)[k]'hkl, by simp [hkl]⟩
      obtain rfl := Option.some.inj ((numbered_get hy).symm.trans hk)
      obtain ⟨C, gs, n, rfl, X, no, lk, hC, hn⟩ := every_at T hy
      refine tg_tup rfl (tgs_cons (tg_name (tgs_cons (tg_name (tgs_nil ?_)))))
      refine do_let (kinD k) ?_ ?_
      · refine ev_lst ?_
        repeat walk_at "ev"
        refine ⟨_, rfl, fun h1 => ?_, fun h1 => ?_⟩
        · repeat walk_at "ev"
          exact ⟨by simp, kin_due k _ (by
            have h1 := of_decide_eq_true h1
            rw [Bool.eq_iff_iff]
            simp
            omega)⟩
        · repeat walk_at "ev"
          exact ⟨by simp, kin_due k _ (by
            have h1 := of_decide_eq_false h1
            rw [Bool.eq_iff_iff]
            simp
            omega)⟩
      have kk := kitX_kinds T.kx hC
      refine do_if (et_not (et_test (ev_like (ea_cons (ev_call (ea_cons (ev_var rfl (ea_nil ⟨⟨C, gs, k, rfl, X, kk⟩, fun d hd => ?_⟩))))))))
      obtain ⟨C', gs', k', e, kk', rfl⟩ := hd
      obtain ⟨rfl, rfl⟩ := D.exc.inj (List.cons.inj e).1
      rw [kinD_uniq kk kk']
      refine ea_cons (ev_var rfl (ea_nil ⟨_, _, rfl, kin_pl k, kin_pl k, kin_dep k, _, rfl, ?_⟩))
      rw [likeD_self _ (kin_pl k)]
      exact ⟨(fun h => nomatch h), fun _ => do_next ⟨_, _, _, rfl⟩⟩
    rintro l δ rfl ⟨a, b', c', rfl⟩
    refine do_if (et_test (ev_op (EvN.ev ?_)))
    refine en_lc (js := [12]) (PX := fun l => l = everyD T x) (it_list (ev_var rfl ⟨_, rfl, rfl⟩)) (fun l e => by rw [e]; simp) (by decide) (fun l i acc => acc = (List.range i).map allKD) (fun l e => rfl) ?_ ?_
    · rintro l k d acc rfl hk rfl
      refine tg_name (et_yes ⟨fun _ => ?_, fun h => nomatch h⟩)
      obtain ⟨C, gs, n, rfl, X, no, lk, hC, hn⟩ := every_at T hk
      refine ev_call (ea_cons (ev_var rfl (ea_nil ⟨⟨C, gs, k, rfl, X, hC⟩, fun d hd => ?_⟩)))
      obtain ⟨C', gs', k', e, hC', rfl⟩ := hd
      obtain ⟨rfl, rfl⟩ := D.exc.inj (List.cons.inj e).1
      rw [allKD_uniq T hC hC', List.range_succ, List.map_append]
      rfl
    rintro l ds rfl hds
    have hds' : ds = (List.range 25).map allKD := hds
    subst hds'
    refine EvN.ev ?_
    refine en_lc (js := [11]) (PX := fun l => l = upto 0 25) (it_range1 (ea_cons (ev_int (ea_nil ⟨25, rfl, by decide, by decide, rfl⟩)))) (fun l e => by rw [e, upto_len]; omega) (by decide) (fun l i acc => acc = (List.range i).map allKD) (fun l e => rfl) ?_ ?_
    · rintro l k d acc rfl hk rfl
      obtain ⟨hk', rfl⟩ := upto_get hk
      refine tg_name (et_yes ⟨fun _ => EvN.ev ?_, fun h => nomatch h⟩)
      refine en_lc (js := [14]) (PX := fun l => l = upto 0 25) (it_range1 (ea_cons (ev_int (ea_nil ⟨25, rfl, by decide, by decide, rfl⟩)))) (fun l e => by rw [e, upto_len]; omega) (by decide) (fun l i acc => acc = (List.range i).map fun j => D.bl (k == j)) (fun l e => rfl) ?_ ?_
      · rintro l j d acc rfl hj rfl
        obtain ⟨hj', rfl⟩ := upto_get hj
        refine tg_name (et_yes ⟨fun _ => ?_, fun h => nomatch h⟩)
        refine ev_op (ev_var rfl (ev_var rfl (od_eq_int ?_)))
        rw [List.range_succ, List.map_append]
        have eb : decide ((0 : Int) + (j : Nat) = 0 + (k : Nat)) = (k == j) := by
          rw [Bool.eq_iff_iff]
          simp
          omega
        rw [eb]
        rfl
      · rintro l ds rfl hds
        have e : ds = (List.range 25).map fun j => D.bl (k == j) := hds
        subst e
        rw [List.range_succ (n := k), List.map_append]
        rfl
    rintro l ds rfl hds
    have hds' : ds = (List.range 25).map allKD := hds
    subst hds'
    have p1 : plainD (.lst ((List.range 25).map allKD)) = true := by decide +kernel
    have p2 : SeqAt.shaped (pyd (.lst ((List.range 25).map allKD))) = true := by decide +kernel
    have p3 : PyData.eqv (pyd (.lst ((List.range 25).map allKD))) (pyd (.lst ((List.range 25).map allKD))) = true := by decide +kernel
    refine od_neD p1 p1 p2 p2 ⟨_, rfl, ?_⟩
    rw [p3]
    exact ⟨(fun h => nomatch h), fun _ => do_next rfl⟩
  · rintro l δ rfl rfl
    exact do_ret (ev_bl rfl)
theorem all_mk {l : PySem.W.OpenLaw} {w : World} {K : PySem.W.Frag} {h : Heap} {mg : Str → Option Value} {fa : Addr} (X : K.In h) (G : h.Ns mainGlobals mg) (hfa : mg "law" = some (.ref fa))
    {c_PartError : Addr}
    {c_Missing : Addr}
    {c_InvalidRow : Addr}
    {c_InvalidState : Addr}
    {c_InvalidGroup : Addr}
    {c_InvalidCommand : Addr}
    {c_InvalidPart : Addr}
    {c_InvalidMark : Addr}
    {c_InvalidOrder : Addr}
    {c_InvalidAsk : Addr}
    {c_InvalidNumber : Addr}
    {c_InvalidStanding : Addr}
    {c_InvalidKind : Addr}
    {c_InvalidWay : Addr}
    {c_InvalidName : Addr}
    {c_InvalidLimit : Addr}
    {c_InvalidText : Addr}
    {c_DuplicateNumber : Addr}
    {c_DuplicateName : Addr}
    {c_TooMany : Addr}
    {c_WrongReader : Addr}
    {c_Full : Addr}
    {c_PartsDiffer : Addr}
    {c_Ended : Addr}
    {c_UnknownName : Addr}
    {c_UnknownNumber : Addr}
    {c_NothingLeft : Addr} {fn1 : Addr} {od1 an1 : Option Addr} {sl1 : Array (Option Value)} {oc1 kV1 dc1 pm1 cd1 ct1 : Value}
    {fn2 : Addr} {od2 an2 : Option Addr} {sl2 : Array (Option Value)} {oc2 kV2 dc2 pm2 cd2 ct2 : Value}
    {fn3 : Addr} {od3 an3 : Option Addr} {sl3 : Array (Option Value)} {oc3 kV3 dc3 pm3 cd3 ct3 : Value}
    {fn4 : Addr} {od4 an4 : Option Addr} {sl4 : Array (Option Value)} {oc4 kV4 dc4 pm4 cd4 ct4 : Value}
    {fn5 : Addr} {od5 an5 : Option Addr} {sl5 : Array (Option Value)} {oc5 kV5 dc5 pm5 cd5 ct5 : Value}
    {fn6 : Addr} {od6 an6 : Option Addr} {sl6 : Array (Option Value)} {oc6 kV6 dc6 pm6 cd6 ct6 : Value}
    {fn7 : Addr} {od7 an7 : Option Addr} {sl7 : Array (Option Value)} {oc7 kV7 dc7 pm7 cd7 ct7 : Value}
    {fn8 : Addr} {od8 an8 : Option Addr} {sl8 : Array (Option Value)} {oc8 kV8 dc8 pm8 cd8 ct8 : Value}
    {fn9 : Addr} {od9 an9 : Option Addr} {sl9 : Array (Option Value)} {oc9 kV9 dc9 pm9 cd9 ct9 : Value}
    {fn10 : Addr} {od10 an10 : Option Addr} {sl10 : Array (Option Value)} {oc10 kV10 dc10 pm10 cd10 ct10 : Value}
    {fn11 : Addr} {od11 an11 : Option Addr} {sl11 : Array (Option Value)} {oc11 kV11 dc11 pm11 cd11 ct11 : Value}
    {fn12 : Addr} {od12 an12 : Option Addr} {sl12 : Array (Option Value)} {oc12 kV12 dc12 pm12 cd12 ct12 : Value}
    {fn13 : Addr} {od13 an13 : Option Addr} {sl13 : Array (Option Value)} {oc13 kV13 dc13 pm13 cd13 ct13 : Value}
    {fn14 : Addr} {od14 an14 : Option Addr} {sl14 : Array (Option Value)} {oc14 kV14 dc14 pm14 cd14 ct14 : Value}
    {fn15 : Addr} {od15 an15 : Option Addr} {sl15 : Array (Option Value)} {oc15 kV15 dc15 pm15 cd15 ct15 : Value}
    {fn16 : Addr} {od16 an16 : Option Addr} {sl16 : Array (Option Value)} {oc16 kV16 dc16 pm16 cd16 ct16 : Value}
    {fn17 : Addr} {od17 an17 : Option Addr} {sl17 : Array (Option Value)} {oc17 kV17 dc17 pm17 cd17 ct17 : Value}
    {fn18 : Addr} {od18 an18 : Option Addr} {sl18 : Array (Option Value)} {oc18 kV18 dc18 pm18 cd18 ct18 : Value}
    {fn19 : Addr} {od19 an19 : Option Addr} {sl19 : Array (Option Value)} {oc19 kV19 dc19 pm19 cd19 ct19 : Value}
    {fn20 : Addr} {od20 an20 : Option Addr} {sl20 : Array (Option Value)} {oc20 kV20 dc20 pm20 cd20 ct20 : Value}
    {fn21 : Addr} {od21 an21 : Option Addr} {sl21 : Array (Option Value)} {oc21 kV21 dc21 pm21 cd21 ct21 : Value}
    {fn22 : Addr} {od22 an22 : Option Addr} {sl22 : Array (Option Value)} {oc22 kV22 dc22 pm22 cd22 ct22 : Value}
    {fn23 : Addr} {od23 an23 : Option Addr} {sl23 : Array (Option Value)} {oc23 kV23 dc23 pm23 cd23 ct23 : Value}
    {fn24 : Addr} {od24 an24 : Option Addr} {sl24 : Array (Option Value)} {oc24 kV24 dc24 pm24 cd24 ct24 : Value}
    {fn25 : Addr} {od25 an25 : Option Addr} {sl25 : Array (Option Value)} {oc25 kV25 dc25 pm25 cd25 ct25 : Value}
    {fn26 : Addr} {od26 an26 : Option Addr} {sl26 : Array (Option Value)} {oc26 kV26 dc26 pm26 cd26 ct26 : Value}
    {fn27 : Addr} {od27 an27 : Option Addr} {sl27 : Array (Option Value)} {oc27 kV27 dc27 pm27 cd27 ct27 : Value}
    {fn28 : Addr} {od28 an28 : Option Addr} {sl28 : Array (Option Value)} {oc28 kV28 dc28 pm28 cd28 ct28 : Value}
    {fn29 : Addr} {od29 an29 : Option Addr} {sl29 : Array (Option Value)} {oc29 kV29 dc29 pm29 cd29 ct29 : Value}
    {fn30 : Addr} {od30 an30 : Option Addr} {sl30 : Array (Option Value)} {oc30 kV30 dc30 pm30 cd30 ct30 : Value}
    {fn31 : Addr} {od31 an31 : Option Addr} {sl31 : Array (Option Value)} {oc31 kV31 dc31 pm31 cd31 ct31 : Value}
    {fn32 : Addr} {od32 an32 : Option Addr} {sl32 : Array (Option Value)} {oc32 kV32 dc32 pm32 cd32 ct32 : Value}
    {fn33 : Addr} {od33 an33 : Option Addr} {sl33 : Array (Option Value)} {oc33 kV33 dc33 pm33 cd33 ct33 : Value}
    (y_PartError : PySem.W.nsIn K mainGlobals "PartError" = some (some (.ref c_PartError)))
    (y_Missing : PySem.W.nsIn K mainGlobals "Missing" = some (some (.ref c_Missing)))
    (y_InvalidRow : PySem.W.nsIn K mainGlobals "InvalidRow" = some (some (.ref c_InvalidRow)))
    (y_InvalidState : PySem.W.nsIn K mainGlobals "InvalidState" = some (some (.ref c_InvalidState)))
    (y_InvalidGroup : PySem.W.nsIn K mainGlobals "InvalidGroup" = some (some (.ref c_InvalidGroup)))
    (y_InvalidCommand : PySem.W.nsIn K mainGlobals "InvalidCommand" = some (some (.ref c_InvalidCommand)))
    (y_InvalidPart : PySem.W.nsIn K mainGlobals "InvalidPart" = some (some (.ref c_InvalidPart)))
    (y_InvalidMark : PySem.W.nsIn K mainGlobals "InvalidMark" = some (some (.ref c_InvalidMark)))
    (y_InvalidOrder : PySem.W.nsIn K mainGlobals "InvalidOrder" = some (some (.ref c_InvalidOrder)))
    (y_InvalidAsk : PySem.W.nsIn K mainGlobals "InvalidAsk" = some (some (.ref c_InvalidAsk)))
    (y_InvalidNumber : PySem.W.nsIn K mainGlobals "InvalidNumber" = some (some (.ref c_InvalidNumber)))
    (y_InvalidStanding : PySem.W.nsIn K mainGlobals "InvalidStanding" = some (some (.ref c_InvalidStanding)))
    (y_InvalidKind : PySem.W.nsIn K mainGlobals "InvalidKind" = some (some (.ref c_InvalidKind)))
    (y_InvalidWay : PySem.W.nsIn K mainGlobals "InvalidWay" = some (some (.ref c_InvalidWay)))
    (y_InvalidName : PySem.W.nsIn K mainGlobals "InvalidName" = some (some (.ref c_InvalidName)))
    (y_InvalidLimit : PySem.W.nsIn K mainGlobals "InvalidLimit" = some (some (.ref c_InvalidLimit)))
    (y_InvalidText : PySem.W.nsIn K mainGlobals "InvalidText" = some (some (.ref c_InvalidText)))
    (y_DuplicateNumber : PySem.W.nsIn K mainGlobals "DuplicateNumber" = some (some (.ref c_DuplicateNumber)))
    (y_DuplicateName : PySem.W.nsIn K mainGlobals "DuplicateName" = some (some (.ref c_DuplicateName)))
    (y_TooMany : PySem.W.nsIn K mainGlobals "TooMany" = some (some (.ref c_TooMany)))
    (y_WrongReader : PySem.W.nsIn K mainGlobals "WrongReader" = some (some (.ref c_WrongReader)))
    (y_Full : PySem.W.nsIn K mainGlobals "Full" = some (some (.ref c_Full)))
    (y_PartsDiffer : PySem.W.nsIn K mainGlobals "PartsDiffer" = some (some (.ref c_PartsDiffer)))
    (y_Ended : PySem.W.nsIn K mainGlobals "Ended" = some (some (.ref c_Ended)))
    (y_UnknownName : PySem.W.nsIn K mainGlobals "UnknownName" = some (some (.ref c_UnknownName)))
    (y_UnknownNumber : PySem.W.nsIn K mainGlobals "UnknownNumber" = some (some (.ref c_UnknownNumber)))
    (y_NothingLeft : PySem.W.nsIn K mainGlobals "NothingLeft" = some (some (.ref c_NothingLeft)))
    (a1 : PySem.W.nsIn K mainGlobals "copied" = some (some (.ref fn1)))
    (l1 : K.lookup fn1 = some ⟨oc1, od1, .func (PySem.W.fnOf "copied" "copied" (defArgs s_copied) (defBody s_copied) (defScope s_copied) .none kV1 dc1 pm1 an1 cd1 ct1), sl1⟩)
    (e1 : PySem.W.codeIn K cd1 "copied" = true)
    (k1 : PySem.W.keepIn K (.ref fn1) = true)
    (a2 : PySem.W.findIn K (.ref c_InvalidRow) "__init__" = some (some (.ref fn2)))
    (l2 : K.lookup fn2 = some ⟨oc2, od2, .func (PySem.W.fnOf "__init__" "InvalidRow.__init__" (defArgs s_InvalidRow_init) (defBody s_InvalidRow_init) (defScope s_InvalidRow_init) .none kV2 dc2 pm2 an2 cd2 ct2), sl2⟩)
    (e2 : PySem.W.codeIn K cd2 "InvalidRow.__init__" = true)
    (k2 : PySem.W.keepIn K (.ref fn2) = true)
    (a3 : PySem.W.findIn K (.ref c_InvalidPart) "__init__" = some (some (.ref fn3)))
    (l3 : K.lookup fn3 = some ⟨oc3, od3, .func (PySem.W.fnOf "__init__" "InvalidPart.__init__" (defArgs s_InvalidPart_init) (defBody s_InvalidPart_init) (defScope s_InvalidPart_init) .none kV3 dc3 pm3 an3 cd3 ct3), sl3⟩)
    (e3 : PySem.W.codeIn K cd3 "InvalidPart.__init__" = true)
    (k3 : PySem.W.keepIn K (.ref fn3) = true)
    (a4 : PySem.W.findIn K (.ref c_InvalidMark) "__init__" = some (some (.ref fn4)))
    (l4 : K.lookup fn4 = some ⟨oc4, od4, .func (PySem.W.fnOf "__init__" "InvalidMark.__init__" (defArgs s_InvalidMark_init) (defBody s_InvalidMark_init) (defScope s_InvalidMark_init) .none kV4 dc4 pm4 an4 cd4 ct4), sl4⟩)
    (e4 : PySem.W.codeIn K cd4 "InvalidMark.__init__" = true)
    (k4 : PySem.W.keepIn K (.ref fn4) = true)
    (a5 : PySem.W.findIn K (.ref c_InvalidOrder) "__init__" = some (some (.ref fn5)))
    (l5 : K.lookup fn5 = some ⟨oc5, od5, .func (PySem.W.fnOf "__init__" "InvalidOrder.__init__" (defArgs s_InvalidOrder_init) (defBody s_InvalidOrder_init) (defScope s_InvalidOrder_init) .none kV5 dc5 pm5 an5 cd5 ct5), sl5⟩)
    (e5 : PySem.W.codeIn K cd5 "InvalidOrder.__init__" = true)
    (k5 : PySem.W.keepIn K (.ref fn5) = true)
    (a6 : PySem.W.findIn K (.ref c_InvalidState) "__init__" = some (some (.ref fn6)))
    (l6 : K.lookup fn6 = some ⟨oc6, od6, .func (PySem.W.fnOf "__init__" "InvalidState.__init__" (defArgs s_InvalidState_init) (defBody s_InvalidState_init) (defScope s_InvalidState_init) .none kV6 dc6 pm6 an6 cd6 ct6), sl6⟩)
    (e6 : PySem.W.codeIn K cd6 "InvalidState.__init__" = true)
    (k6 : PySem.W.keepIn K (.ref fn6) = true)
    (a7 : PySem.W.findIn K (.ref c_InvalidAsk) "__init__" = some (some (.ref fn7)))
    (l7 : K.lookup fn7 = some ⟨oc7, od7, .func (PySem.W.fnOf "__init__" "InvalidAsk.__init__" (defArgs s_InvalidAsk_init) (defBody s_InvalidAsk_init) (defScope s_InvalidAsk_init) .none kV7 dc7 pm7 an7 cd7 ct7), sl7⟩)
    (e7 : PySem.W.codeIn K cd7 "InvalidAsk.__init__" = true)
    (k7 : PySem.W.keepIn K (.ref fn7) = true)
    (a8 : PySem.W.findIn K (.ref c_InvalidNumber) "__init__" = some (some (.ref fn8)))
    (l8 : K.lookup fn8 = some ⟨oc8, od8, .func (PySem.W.fnOf "__init__" "InvalidNumber.__init__" (defArgs s_InvalidNumber_init) (defBody s_InvalidNumber_init) (defScope s_InvalidNumber_init) .none kV8 dc8 pm8 an8 cd8 ct8), sl8⟩)
    (e8 : PySem.W.codeIn K cd8 "InvalidNumber.__init__" = true)
    (k8 : PySem.W.keepIn K (.ref fn8) = true)
    (a9 : PySem.W.findIn K (.ref c_InvalidStanding) "__init__" = some (some (.ref fn9)))
    (l9 : K.lookup fn9 = some ⟨oc9, od9, .func (PySem.W.fnOf "__init__" "InvalidStanding.__init__" (defArgs s_InvalidStanding_init) (defBody s_InvalidStanding_init) (defScope s_InvalidStanding_init) .none kV9 dc9 pm9 an9 cd9 ct9), sl9⟩)
    (e9 : PySem.W.codeIn K cd9 "InvalidStanding.__init__" = true)
    (k9 : PySem.W.keepIn K (.ref fn9) = true)
    (a10 : PySem.W.findIn K (.ref c_InvalidKind) "__init__" = some (some (.ref fn10)))
    (l10 : K.lookup fn10 = some ⟨oc10, od10, .func (PySem.W.fnOf "__init__" "InvalidKind.__init__" (defArgs s_InvalidKind_init) (defBody s_InvalidKind_init) (defScope s_InvalidKind_init) .none kV10 dc10 pm10 an10 cd10 ct10), sl10⟩)
    (e10 : PySem.W.codeIn K cd10 "InvalidKind.__init__" = true)
    (k10 : PySem.W.keepIn K (.ref fn10) = true)
    (a11 : PySem.W.findIn K (.ref c_InvalidGroup) "__init__" = some (some (.ref fn11)))
    (l11 : K.lookup fn11 = some ⟨oc11, od11, .func (PySem.W.fnOf "__init__" "InvalidGroup.__init__" (defArgs s_InvalidGroup_init) (defBody s_InvalidGroup_init) (defScope s_InvalidGroup_init) .none kV11 dc11 pm11 an11 cd11 ct11), sl11⟩)
    (e11 : PySem.W.codeIn K cd11 "InvalidGroup.__init__" = true)
    (k11 : PySem.W.keepIn K (.ref fn11) = true)
    (a12 : PySem.W.findIn K (.ref c_InvalidWay) "__init__" = some (some (.ref fn12)))
    (l12 : K.lookup fn12 = some ⟨oc12, od12, .func (PySem.W.fnOf "__init__" "InvalidWay.__init__" (defArgs s_InvalidWay_init) (defBody s_InvalidWay_init) (defScope s_InvalidWay_init) .none kV12 dc12 pm12 an12 cd12 ct12), sl12⟩)
    (e12 : PySem.W.codeIn K cd12 "InvalidWay.__init__" = true)
    (k12 : PySem.W.keepIn K (.ref fn12) = true)
    (a13 : PySem.W.findIn K (.ref c_InvalidName) "__init__" = some (some (.ref fn13)))
    (l13 : K.lookup fn13 = some ⟨oc13, od13, .func (PySem.W.fnOf "__init__" "InvalidName.__init__" (defArgs s_InvalidName_init) (defBody s_InvalidName_init) (defScope s_InvalidName_init) .none kV13 dc13 pm13 an13 cd13 ct13), sl13⟩)
    (e13 : PySem.W.codeIn K cd13 "InvalidName.__init__" = true)
    (k13 : PySem.W.keepIn K (.ref fn13) = true)
    (a14 : PySem.W.findIn K (.ref c_InvalidText) "__init__" = some (some (.ref fn14)))
    (l14 : K.lookup fn14 = some ⟨oc14, od14, .func (PySem.W.fnOf "__init__" "InvalidText.__init__" (defArgs s_InvalidText_init) (defBody s_InvalidText_init) (defScope s_InvalidText_init) .none kV14 dc14 pm14 an14 cd14 ct14), sl14⟩)
    (e14 : PySem.W.codeIn K cd14 "InvalidText.__init__" = true)
    (k14 : PySem.W.keepIn K (.ref fn14) = true)
    (a15 : PySem.W.findIn K (.ref c_InvalidCommand) "__init__" = some (some (.ref fn15)))
    (l15 : K.lookup fn15 = some ⟨oc15, od15, .func (PySem.W.fnOf "__init__" "InvalidCommand.__init__" (defArgs s_InvalidCommand_init) (defBody s_InvalidCommand_init) (defScope s_InvalidCommand_init) .none kV15 dc15 pm15 an15 cd15 ct15), sl15⟩)
    (e15 : PySem.W.codeIn K cd15 "InvalidCommand.__init__" = true)
    (k15 : PySem.W.keepIn K (.ref fn15) = true)
    (a16 : PySem.W.findIn K (.ref c_InvalidLimit) "__init__" = some (some (.ref fn16)))
    (l16 : K.lookup fn16 = some ⟨oc16, od16, .func (PySem.W.fnOf "__init__" "InvalidLimit.__init__" (defArgs s_InvalidLimit_init) (defBody s_InvalidLimit_init) (defScope s_InvalidLimit_init) .none kV16 dc16 pm16 an16 cd16 ct16), sl16⟩)
    (e16 : PySem.W.codeIn K cd16 "InvalidLimit.__init__" = true)
    (k16 : PySem.W.keepIn K (.ref fn16) = true)
    (a17 : PySem.W.findIn K (.ref c_DuplicateNumber) "__init__" = some (some (.ref fn17)))
    (l17 : K.lookup fn17 = some ⟨oc17, od17, .func (PySem.W.fnOf "__init__" "DuplicateNumber.__init__" (defArgs s_DuplicateNumber_init) (defBody s_DuplicateNumber_init) (defScope s_DuplicateNumber_init) .none kV17 dc17 pm17 an17 cd17 ct17), sl17⟩)
    (e17 : PySem.W.codeIn K cd17 "DuplicateNumber.__init__" = true)
    (k17 : PySem.W.keepIn K (.ref fn17) = true)
    (a18 : PySem.W.findIn K (.ref c_DuplicateName) "__init__" = some (some (.ref fn18)))
    (l18 : K.lookup fn18 = some ⟨oc18, od18, .func (PySem.W.fnOf "__init__" "DuplicateName.__init__" (defArgs s_DuplicateName_init) (defBody s_DuplicateName_init) (defScope s_DuplicateName_init) .none kV18 dc18 pm18 an18 cd18 ct18), sl18⟩)
    (e18 : PySem.W.codeIn K cd18 "DuplicateName.__init__" = true)
    (k18 : PySem.W.keepIn K (.ref fn18) = true)
    (a19 : PySem.W.findIn K (.ref c_TooMany) "__init__" = some (some (.ref fn19)))
    (l19 : K.lookup fn19 = some ⟨oc19, od19, .func (PySem.W.fnOf "__init__" "TooMany.__init__" (defArgs s_TooMany_init) (defBody s_TooMany_init) (defScope s_TooMany_init) .none kV19 dc19 pm19 an19 cd19 ct19), sl19⟩)
    (e19 : PySem.W.codeIn K cd19 "TooMany.__init__" = true)
    (k19 : PySem.W.keepIn K (.ref fn19) = true)
    (a20 : PySem.W.findIn K (.ref c_PartsDiffer) "__init__" = some (some (.ref fn20)))
    (l20 : K.lookup fn20 = some ⟨oc20, od20, .func (PySem.W.fnOf "__init__" "PartsDiffer.__init__" (defArgs s_PartsDiffer_init) (defBody s_PartsDiffer_init) (defScope s_PartsDiffer_init) .none kV20 dc20 pm20 an20 cd20 ct20), sl20⟩)
    (e20 : PySem.W.codeIn K cd20 "PartsDiffer.__init__" = true)
    (k20 : PySem.W.keepIn K (.ref fn20) = true)
    (a21 : PySem.W.findIn K (.ref c_WrongReader) "__init__" = some (some (.ref fn21)))
    (l21 : K.lookup fn21 = some ⟨oc21, od21, .func (PySem.W.fnOf "__init__" "WrongReader.__init__" (defArgs s_WrongReader_init) (defBody s_WrongReader_init) (defScope s_WrongReader_init) .none kV21 dc21 pm21 an21 cd21 ct21), sl21⟩)
    (e21 : PySem.W.codeIn K cd21 "WrongReader.__init__" = true)
    (k21 : PySem.W.keepIn K (.ref fn21) = true)
    (a22 : PySem.W.findIn K (.ref c_Ended) "__init__" = some (some (.ref fn22)))
    (l22 : K.lookup fn22 = some ⟨oc22, od22, .func (PySem.W.fnOf "__init__" "Ended.__init__" (defArgs s_Ended_init) (defBody s_Ended_init) (defScope s_Ended_init) .none kV22 dc22 pm22 an22 cd22 ct22), sl22⟩)
    (e22 : PySem.W.codeIn K cd22 "Ended.__init__" = true)
    (k22 : PySem.W.keepIn K (.ref fn22) = true)
    (a23 : PySem.W.findIn K (.ref c_Full) "__init__" = some (some (.ref fn23)))
    (l23 : K.lookup fn23 = some ⟨oc23, od23, .func (PySem.W.fnOf "__init__" "Full.__init__" (defArgs s_Full_init) (defBody s_Full_init) (defScope s_Full_init) .none kV23 dc23 pm23 an23 cd23 ct23), sl23⟩)
    (e23 : PySem.W.codeIn K cd23 "Full.__init__" = true)
    (k23 : PySem.W.keepIn K (.ref fn23) = true)
    (a24 : PySem.W.findIn K (.ref c_UnknownName) "__init__" = some (some (.ref fn24)))
    (l24 : K.lookup fn24 = some ⟨oc24, od24, .func (PySem.W.fnOf "__init__" "UnknownName.__init__" (defArgs s_UnknownName_init) (defBody s_UnknownName_init) (defScope s_UnknownName_init) .none kV24 dc24 pm24 an24 cd24 ct24), sl24⟩)
    (e24 : PySem.W.codeIn K cd24 "UnknownName.__init__" = true)
    (k24 : PySem.W.keepIn K (.ref fn24) = true)
    (a25 : PySem.W.findIn K (.ref c_UnknownNumber) "__init__" = some (some (.ref fn25)))
    (l25 : K.lookup fn25 = some ⟨oc25, od25, .func (PySem.W.fnOf "__init__" "UnknownNumber.__init__" (defArgs s_UnknownNumber_init) (defBody s_UnknownNumber_init) (defScope s_UnknownNumber_init) .none kV25 dc25 pm25 an25 cd25 ct25), sl25⟩)
    (e25 : PySem.W.codeIn K cd25 "UnknownNumber.__init__" = true)
    (k25 : PySem.W.keepIn K (.ref fn25) = true)
    (a26 : PySem.W.findIn K (.ref c_NothingLeft) "__init__" = some (some (.ref fn26)))
    (l26 : K.lookup fn26 = some ⟨oc26, od26, .func (PySem.W.fnOf "__init__" "NothingLeft.__init__" (defArgs s_NothingLeft_init) (defBody s_NothingLeft_init) (defScope s_NothingLeft_init) .none kV26 dc26 pm26 an26 cd26 ct26), sl26⟩)
    (e26 : PySem.W.codeIn K cd26 "NothingLeft.__init__" = true)
    (k26 : PySem.W.keepIn K (.ref fn26) = true)
    (a27 : PySem.W.nsIn K mainGlobals "_law_open" = some (some (.ref fn27)))
    (l27 : K.lookup fn27 = some ⟨oc27, od27, .func (PySem.W.fnOf "_law_open" "_law_open" (defArgs s_open) (defBody s_open) (defScope s_open) .none kV27 dc27 pm27 an27 cd27 ct27), sl27⟩)
    (e27 : PySem.W.codeIn K cd27 "_law_open" = true)
    (k27 : PySem.W.keepIn K (.ref fn27) = true)
    (a28 : PySem.W.nsIn K mainGlobals "_law_draw" = some (some (.ref fn28)))
    (l28 : K.lookup fn28 = some ⟨oc28, od28, .func (PySem.W.fnOf "_law_draw" "_law_draw" (defArgs s_draw) (defBody s_draw) (defScope s_draw) .none kV28 dc28 pm28 an28 cd28 ct28), sl28⟩)
    (e28 : PySem.W.codeIn K cd28 "_law_draw" = true)
    (k28 : PySem.W.keepIn K (.ref fn28) = true)
    (a29 : PySem.W.nsIn K mainGlobals "_law_of" = some (some (.ref fn29)))
    (l29 : K.lookup fn29 = some ⟨oc29, od29, .func (PySem.W.fnOf "_law_of" "_law_of" (defArgs s_of) (defBody s_of) (defScope s_of) .none kV29 dc29 pm29 an29 cd29 ct29), sl29⟩)
    (e29 : PySem.W.codeIn K cd29 "_law_of" = true)
    (k29 : PySem.W.keepIn K (.ref fn29) = true)
    (a30 : PySem.W.nsIn K mainGlobals "_law_like" = some (some (.ref fn30)))
    (l30 : K.lookup fn30 = some ⟨oc30, od30, .func (PySem.W.fnOf "_law_like" "_law_like" (defArgs s_like) (defBody s_like) (defScope s_like) .none kV30 dc30 pm30 an30 cd30 ct30), sl30⟩)
    (e30 : PySem.W.codeIn K cd30 "_law_like" = true)
    (k30 : PySem.W.keepIn K (.ref fn30) = true)
    (a31 : PySem.W.nsIn K mainGlobals "_law_kinds_of" = some (some (.ref fn31)))
    (l31 : K.lookup fn31 = some ⟨oc31, od31, .func (PySem.W.fnOf "_law_kinds_of" "_law_kinds_of" (defArgs s_kinds_of) (defBody s_kinds_of) (defScope s_kinds_of) .none kV31 dc31 pm31 an31 cd31 ct31), sl31⟩)
    (e31 : PySem.W.codeIn K cd31 "_law_kinds_of" = true)
    (k31 : PySem.W.keepIn K (.ref fn31) = true)
    (a32 : PySem.W.nsIn K mainGlobals "_law_all_kinds" = some (some (.ref fn32)))
    (l32 : K.lookup fn32 = some ⟨oc32, od32, .func (PySem.W.fnOf "_law_all_kinds" "_law_all_kinds" (defArgs s_all_kinds) (defBody s_all_kinds) (defScope s_all_kinds) .none kV32 dc32 pm32 an32 cd32 ct32), sl32⟩)
    (e32 : PySem.W.codeIn K cd32 "_law_all_kinds" = true)
    (k32 : PySem.W.keepIn K (.ref fn32) = true)
    (a33 : PySem.W.nsIn K mainGlobals "law" = some (some (.ref fn33)))
    (l33 : K.lookup fn33 = some ⟨oc33, od33, .func (PySem.W.fnOf "law" "law" (defArgs s_law) (defBody s_law) (defScope s_law) .none kV33 dc33 pm33 an33 cd33 ct33), sl33⟩)
    (e33 : PySem.W.codeIn K cd33 "law" = true)
    (k33 : PySem.W.keepIn K (.ref fn33) = true)
    (z1 : PySem.W.nsIn K mainGlobals "IndexError" = some none)
    (z2 : PySem.W.nsIn K mainGlobals "KeyError" = some none)
    (z3 : PySem.W.nsIn K mainGlobals "LookupError" = some none)
    (z4 : PySem.W.nsIn K mainGlobals "ValueError" = some none)
    (z5 : PySem.W.nsIn K mainGlobals "all" = some none)
    (z6 : PySem.W.nsIn K mainGlobals "bool" = some none)
    (z7 : PySem.W.nsIn K mainGlobals "enumerate" = some none)
    (z8 : PySem.W.nsIn K mainGlobals "int" = some none)
    (z9 : PySem.W.nsIn K mainGlobals "isinstance" = some none)
    (z10 : PySem.W.nsIn K mainGlobals "len" = some none)
    (z11 : PySem.W.nsIn K mainGlobals "list" = some none)
    (z12 : PySem.W.nsIn K mainGlobals "range" = some none)
    (z13 : PySem.W.nsIn K mainGlobals "str" = some none)
    (z14 : PySem.W.nsIn K mainGlobals "tuple" = some none)
    (z15 : PySem.W.nsIn K mainGlobals "zip" = some none)
    (x1 : xcB K c_InvalidRow fn2 ["code", "at"] = true)
    (x2 : xcB K c_InvalidState fn6 ["code", "at"] = true)
    (x3 : xcB K c_InvalidGroup fn11 ["code", "at"] = true)
    (x4 : xcB K c_InvalidCommand fn15 ["code", "at"] = true)
    (x5 : xcB K c_InvalidPart fn3 ["code", "given"] = true)
    (x6 : xcB K c_InvalidMark fn4 ["code", "given"] = true)
    (x7 : xcB K c_InvalidOrder fn5 ["code", "given"] = true)
    (x8 : xcB K c_InvalidAsk fn7 ["code", "given"] = true)
    (x9 : xcB K c_InvalidNumber fn8 ["code", "given"] = true)
    (x10 : xcB K c_InvalidStanding fn9 ["code", "given"] = true)
    (x11 : xcB K c_InvalidKind fn10 ["code", "given"] = true)
    (x12 : xcB K c_InvalidWay fn12 ["code", "given"] = true)
    (x13 : xcB K c_InvalidName fn13 ["code", "given"] = true)
    (x14 : xcB K c_InvalidLimit fn16 ["code", "given"] = true)
    (x15 : xcB K c_InvalidText fn14 ["code", "line"] = true)
    (x16 : xcB K c_DuplicateNumber fn17 ["code", "number"] = true)
    (x17 : xcB K c_DuplicateName fn18 ["code", "name"] = true)
    (x18 : xcB K c_TooMany fn19 ["code", "most"] = true)
    (x19 : xcB K c_WrongReader fn21 ["code", "first"] = true)
    (x20 : xcB K c_Full fn23 ["code", "limit"] = true)
    (x21 : xcB K c_PartsDiffer fn20 ["code"] = true)
    (x22 : xcB K c_Ended fn22 ["code"] = true)
    (x23 : xcB K c_UnknownName fn24 ["code", "name"] = true)
    (x24 : xcB K c_UnknownNumber fn25 ["code", "number"] = true)
    (x25 : xcB K c_NothingLeft fn26 ["code"] = true)
    (x26 : kitX K [c_InvalidRow, c_InvalidState, c_InvalidGroup, c_InvalidCommand, c_InvalidPart, c_InvalidMark, c_InvalidOrder, c_InvalidAsk, c_InvalidNumber, c_InvalidStanding, c_InvalidKind, c_InvalidWay, c_InvalidName, c_InvalidLimit, c_InvalidText, c_DuplicateNumber, c_DuplicateName, c_TooMany, c_WrongReader, c_Full, c_PartsDiffer, c_Ended, c_UnknownName, c_UnknownNumber, c_NothingLeft] c_PartError c_Missing c_NothingLeft = true) :
    ∃ fd : FuncData, (∀ (s : Shared) (v : Value), BindsTo s fd ⟨[v], []⟩ [("_law_script", v)]) ∧ ∀ base : Heap, K.In base → base.Ns mainGlobals mg → FnOk l.prog w K mg base CX0 18 fa fd ["_law_script"] (spLaw K) := by
  have e := hfa.symm.trans (PySem.W.mg_of X G a33)
  cases e
  let T : Txt K mg :=
    { f_copied := fn1, fd_copied := (PySem.W.fnOf "copied" "copied" (defArgs s_copied) (defBody s_copied) (defScope s_copied) .none kV1 dc1 pm1 an1 cd1 ct1), F_copied := (fun_mk (st := s_copied) l1 e1 k1), k_copied := k1,
      g_copied := PySem.W.mg_of X G a1,
      bd_copied := ((fun_mk (st := s_copied) l1 e1 k1).binds (ps := ["value"]) fun _ _ _ _ _ _ us hl => match us, hl with | [_], _ => rfl),
      f_InvalidRow_init := fn2, fd_InvalidRow_init := (PySem.W.fnOf "__init__" "InvalidRow.__init__" (defArgs s_InvalidRow_init) (defBody s_InvalidRow_init) (defScope s_InvalidRow_init) .none kV2 dc2 pm2 an2 cd2 ct2), F_InvalidRow_init := (fun_mk (st := s_InvalidRow_init) l2 e2 k2), k_InvalidRow_init := k2,
      bd_InvalidRow_init := ((fun_mk (st := s_InvalidRow_init) l2 e2 k2).binds (ps := ["self", "at"]) fun _ _ _ _ _ _ us hl => match us, hl with | [_, _], _ => rfl),
      f_InvalidPart_init := fn3, fd_InvalidPart_init := (PySem.W.fnOf "__init__" "InvalidPart.__init__" (defArgs s_InvalidPart_init) (defBody s_InvalidPart_init) (defScope s_InvalidPart_init) .none kV3 dc3 pm3 an3 cd3 ct3), F_InvalidPart_init := (fun_mk (st := s_InvalidPart_init) l3 e3 k3), k_InvalidPart_init := k3,
      bd_InvalidPart_init := ((fun_mk (st := s_InvalidPart_init) l3 e3 k3).binds (ps := ["self", "given"]) fun _ _ _ _ _ _ us hl => match us, hl with | [_, _], _ => rfl),
      f_InvalidMark_init := fn4, fd_InvalidMark_init := (PySem.W.fnOf "__init__" "InvalidMark.__init__" (defArgs s_InvalidMark_init) (defBody s_InvalidMark_init) (defScope s_InvalidMark_init) .none kV4 dc4 pm4 an4 cd4 ct4), F_InvalidMark_init := (fun_mk (st := s_InvalidMark_init) l4 e4 k4), k_InvalidMark_init := k4,
      bd_InvalidMark_init := ((fun_mk (st := s_InvalidMark_init) l4 e4 k4).binds (ps := ["self", "given"]) fun _ _ _ _ _ _ us hl => match us, hl with | [_, _], _ => rfl),
      f_InvalidOrder_init := fn5, fd_InvalidOrder_init := (PySem.W.fnOf "__init__" "InvalidOrder.__init__" (defArgs s_InvalidOrder_init) (defBody s_InvalidOrder_init) (defScope s_InvalidOrder_init) .none kV5 dc5 pm5 an5 cd5 ct5), F_InvalidOrder_init := (fun_mk (st := s_InvalidOrder_init) l5 e5 k5), k_InvalidOrder_init := k5,
      bd_InvalidOrder_init := ((fun_mk (st := s_InvalidOrder_init) l5 e5 k5).binds (ps := ["self", "given"]) fun _ _ _ _ _ _ us hl => match us, hl with | [_, _], _ => rfl),
      f_InvalidState_init := fn6, fd_InvalidState_init := (PySem.W.fnOf "__init__" "InvalidState.__init__" (defArgs s_InvalidState_init) (defBody s_InvalidState_init) (defScope s_InvalidState_init) .none kV6 dc6 pm6 an6 cd6 ct6), F_InvalidState_init := (fun_mk (st := s_InvalidState_init) l6 e6 k6), k_InvalidState_init := k6,
      bd_InvalidState_init := ((fun_mk (st := s_InvalidState_init) l6 e6 k6).binds (ps := ["self", "at"]) fun _ _ _ _ _ _ us hl => match us, hl with | [_, _], _ => rfl),
      f_InvalidAsk_init := fn7, fd_InvalidAsk_init := (PySem.W.fnOf "__init__" "InvalidAsk.__init__" (defArgs s_InvalidAsk_init) (defBody s_InvalidAsk_init) (defScope s_InvalidAsk_init) .none kV7 dc7 pm7 an7 cd7 ct7), F_InvalidAsk_init := (fun_mk (st := s_InvalidAsk_init) l7 e7 k7), k_InvalidAsk_init := k7,
      bd_InvalidAsk_init := ((fun_mk (st := s_InvalidAsk_init) l7 e7 k7).binds (ps := ["self", "given"]) fun _ _ _ _ _ _ us hl => match us, hl with | [_, _], _ => rfl),
      f_InvalidNumber_init := fn8, fd_InvalidNumber_init := (PySem.W.fnOf "__init__" "InvalidNumber.__init__" (defArgs s_InvalidNumber_init) (defBody s_InvalidNumber_init) (defScope s_InvalidNumber_init) .none kV8 dc8 pm8 an8 cd8 ct8), F_InvalidNumber_init := (fun_mk (st := s_InvalidNumber_init) l8 e8 k8), k_InvalidNumber_init := k8,
      bd_InvalidNumber_init := ((fun_mk (st := s_InvalidNumber_init) l8 e8 k8).binds (ps := ["self", "given"]) fun _ _ _ _ _ _ us hl => match us, hl with | [_, _], _ => rfl),
      f_InvalidStanding_init := fn9, fd_InvalidStanding_init := (PySem.W.fnOf "__init__" "InvalidStanding.__init__" (defArgs s_InvalidStanding_init) (defBody s_InvalidStanding_init) (defScope s_InvalidStanding_init) .none kV9 dc9 pm9 an9 cd9 ct9), F_InvalidStanding_init := (fun_mk (st := s_InvalidStanding_init) l9 e9 k9), k_InvalidStanding_init := k9,
      bd_InvalidStanding_init := ((fun_mk (st := s_InvalidStanding_init) l9 e9 k9).binds (ps := ["self", "given"]) fun _ _ _ _ _ _ us hl => match us, hl with | [_, _], _ => rfl),
      f_InvalidKind_init := fn10, fd_InvalidKind_init := (PySem.W.fnOf "__init__" "InvalidKind.__init__" (defArgs s_InvalidKind_init) (defBody s_InvalidKind_init) (defScope s_InvalidKind_init) .none kV10 dc10 pm10 an10 cd10 ct10), F_InvalidKind_init := (fun_mk (st := s_InvalidKind_init) l10 e10 k10), k_InvalidKind_init := k10,
      bd_InvalidKind_init := ((fun_mk (st := s_InvalidKind_init) l10 e10 k10).binds (ps := ["self", "given"]) fun _ _ _ _ _ _ us hl => match us, hl with | [_, _], _ => rfl),
      f_InvalidGroup_init := fn11, fd_InvalidGroup_init := (PySem.W.fnOf "__init__" "InvalidGroup.__init__" (defArgs s_InvalidGroup_init) (defBody s_InvalidGroup_init) (defScope s_InvalidGroup_init) .none kV11 dc11 pm11 an11 cd11 ct11), F_InvalidGroup_init := (fun_mk (st := s_InvalidGroup_init) l11 e11 k11), k_InvalidGroup_init := k11,
      bd_InvalidGroup_init := ((fun_mk (st := s_InvalidGroup_init) l11 e11 k11).binds (ps := ["self", "at"]) fun _ _ _ _ _ _ us hl => match us, hl with | [_, _], _ => rfl),
      f_InvalidWay_init := fn12, fd_InvalidWay_init := (PySem.W.fnOf "__init__" "InvalidWay.__init__" (defArgs s_InvalidWay_init) (defBody s_InvalidWay_init) (defScope s_InvalidWay_init) .none kV12 dc12 pm12 an12 cd12 ct12), F_InvalidWay_init := (fun_mk (st := s_InvalidWay_init) l12 e12 k12), k_InvalidWay_init := k12,
      bd_InvalidWay_init := ((fun_mk (st := s_InvalidWay_init) l12 e12 k12).binds (ps := ["self", "given"]) fun _ _ _ _ _ _ us hl => match us, hl with | [_, _], _ => rfl),
      f_InvalidName_init := fn13, fd_InvalidName_init := (PySem.W.fnOf "__init__" "InvalidName.__init__" (defArgs s_InvalidName_init) (defBody s_InvalidName_init) (defScope s_InvalidName_init) .none kV13 dc13 pm13 an13 cd13 ct13), F_InvalidName_init := (fun_mk (st := s_InvalidName_init) l13 e13 k13), k_InvalidName_init := k13,
      bd_InvalidName_init := ((fun_mk (st := s_InvalidName_init) l13 e13 k13).binds (ps := ["self", "given"]) fun _ _ _ _ _ _ us hl => match us, hl with | [_, _], _ => rfl),
      f_InvalidText_init := fn14, fd_InvalidText_init := (PySem.W.fnOf "__init__" "InvalidText.__init__" (defArgs s_InvalidText_init) (defBody s_InvalidText_init) (defScope s_InvalidText_init) .none kV14 dc14 pm14 an14 cd14 ct14), F_InvalidText_init := (fun_mk (st := s_InvalidText_init) l14 e14 k14), k_InvalidText_init := k14,
      bd_InvalidText_init := ((fun_mk (st := s_InvalidText_init) l14 e14 k14).binds (ps := ["self", "line"]) fun _ _ _ _ _ _ us hl => match us, hl with | [_, _], _ => rfl),
      f_InvalidCommand_init := fn15, fd_InvalidCommand_init := (PySem.W.fnOf "__init__" "InvalidCommand.__init__" (defArgs s_InvalidCommand_init) (defBody s_InvalidCommand_init) (defScope s_InvalidCommand_init) .none kV15 dc15 pm15 an15 cd15 ct15), F_InvalidCommand_init := (fun_mk (st := s_InvalidCommand_init) l15 e15 k15), k_InvalidCommand_init := k15,
      bd_InvalidCommand_init := ((fun_mk (st := s_InvalidCommand_init) l15 e15 k15).binds (ps := ["self", "at"]) fun _ _ _ _ _ _ us hl => match us, hl with | [_, _], _ => rfl),
      f_InvalidLimit_init := fn16, fd_InvalidLimit_init := (PySem.W.fnOf "__init__" "InvalidLimit.__init__" (defArgs s_InvalidLimit_init) (defBody s_InvalidLimit_init) (defScope s_InvalidLimit_init) .none kV16 dc16 pm16 an16 cd16 ct16), F_InvalidLimit_init := (fun_mk (st := s_InvalidLimit_init) l16 e16 k16), k_InvalidLimit_init := k16,
      bd_InvalidLimit_init := ((fun_mk (st := s_InvalidLimit_init) l16 e16 k16).binds (ps := ["self", "given"]) fun _ _ _ _ _ _ us hl => match us, hl with | [_, _], _ => rfl),
      f_DuplicateNumber_init := fn17, fd_DuplicateNumber_init := (PySem.W.fnOf "__init__" "DuplicateNumber.__init__" (defArgs s_DuplicateNumber_init) (defBody s_DuplicateNumber_init) (defScope s_DuplicateNumber_init) .none kV17 dc17 pm17 an17 cd17 ct17), F_DuplicateNumber_init := (fun_mk (st := s_DuplicateNumber_init) l17 e17 k17), k_DuplicateNumber_init := k17,
      bd_DuplicateNumber_init := ((fun_mk (st := s_DuplicateNumber_init) l17 e17 k17).binds (ps := ["self", "number"]) fun _ _ _ _ _ _ us hl => match us, hl with | [_, _], _ => rfl),
      f_DuplicateName_init := fn18, fd_DuplicateName_init := (PySem.W.fnOf "__init__" "DuplicateName.__init__" (defArgs s_DuplicateName_init) (defBody s_DuplicateName_init) (defScope s_DuplicateName_init) .none kV18 dc18 pm18 an18 cd18 ct18), F_DuplicateName_init := (fun_mk (st := s_DuplicateName_init) l18 e18 k18), k_DuplicateName_init := k18,
      bd_DuplicateName_init := ((fun_mk (st := s_DuplicateName_init) l18 e18 k18).binds (ps := ["self", "name"]) fun _ _ _ _ _ _ us hl => match us, hl with | [_, _], _ => rfl),
      f_TooMany_init := fn19, fd_TooMany_init := (PySem.W.fnOf "__init__" "TooMany.__init__" (defArgs s_TooMany_init) (defBody s_TooMany_init) (defScope s_TooMany_init) .none kV19 dc19 pm19 an19 cd19 ct19), F_TooMany_init := (fun_mk (st := s_TooMany_init) l19 e19 k19), k_TooMany_init := k19,
      bd_TooMany_init := ((fun_mk (st := s_TooMany_init) l19 e19 k19).binds (ps := ["self", "most"]) fun _ _ _ _ _ _ us hl => match us, hl with | [_, _], _ => rfl),
      f_PartsDiffer_init := fn20, fd_PartsDiffer_init := (PySem.W.fnOf "__init__" "PartsDiffer.__init__" (defArgs s_PartsDiffer_init) (defBody s_PartsDiffer_init) (defScope s_PartsDiffer_init) .none kV20 dc20 pm20 an20 cd20 ct20), F_PartsDiffer_init := (fun_mk (st := s_PartsDiffer_init) l20 e20 k20), k_PartsDiffer_init := k20,
      bd_PartsDiffer_init := ((fun_mk (st := s_PartsDiffer_init) l20 e20 k20).binds (ps := ["self"]) fun _ _ _ _ _ _ us hl => match us, hl with | [_], _ => rfl),
      f_WrongReader_init := fn21, fd_WrongReader_init := (PySem.W.fnOf "__init__" "WrongReader.__init__" (defArgs s_WrongReader_init) (defBody s_WrongReader_init) (defScope s_WrongReader_init) .none kV21 dc21 pm21 an21 cd21 ct21), F_WrongReader_init := (fun_mk (st := s_WrongReader_init) l21 e21 k21), k_WrongReader_init := k21,
      bd_WrongReader_init := ((fun_mk (st := s_WrongReader_init) l21 e21 k21).binds (ps := ["self", "first"]) fun _ _ _ _ _ _ us hl => match us, hl with | [_, _], _ => rfl),
      f_Ended_init := fn22, fd_Ended_init := (PySem.W.fnOf "__init__" "Ended.__init__" (defArgs s_Ended_init) (defBody s_Ended_init) (defScope s_Ended_init) .none kV22 dc22 pm22 an22 cd22 ct22), F_Ended_init := (fun_mk (st := s_Ended_init) l22 e22 k22), k_Ended_init := k22,
      bd_Ended_init := ((fun_mk (st := s_Ended_init) l22 e22 k22).binds (ps := ["self"]) fun _ _ _ _ _ _ us hl => match us, hl with | [_], _ => rfl),
      f_Full_init := fn23, fd_Full_init := (PySem.W.fnOf "__init__" "Full.__init__" (defArgs s_Full_init) (defBody s_Full_init) (defScope s_Full_init) .none kV23 dc23 pm23 an23 cd23 ct23), F_Full_init := (fun_mk (st := s_Full_init) l23 e23 k23), k_Full_init := k23,
      bd_Full_init := ((fun_mk (st := s_Full_init) l23 e23 k23).binds (ps := ["self", "limit"]) fun _ _ _ _ _ _ us hl => match us, hl with | [_, _], _ => rfl),
      f_UnknownName_init := fn24, fd_UnknownName_init := (PySem.W.fnOf "__init__" "UnknownName.__init__" (defArgs s_UnknownName_init) (defBody s_UnknownName_init) (defScope s_UnknownName_init) .none kV24 dc24 pm24 an24 cd24 ct24), F_UnknownName_init := (fun_mk (st := s_UnknownName_init) l24 e24 k24), k_UnknownName_init := k24,
      bd_UnknownName_init := ((fun_mk (st := s_UnknownName_init) l24 e24 k24).binds (ps := ["self", "name"]) fun _ _ _ _ _ _ us hl => match us, hl with | [_, _], _ => rfl),
      f_UnknownNumber_init := fn25, fd_UnknownNumber_init := (PySem.W.fnOf "__init__" "UnknownNumber.__init__" (defArgs s_UnknownNumber_init) (defBody s_UnknownNumber_init) (defScope s_UnknownNumber_init) .none kV25 dc25 pm25 an25 cd25 ct25), F_UnknownNumber_init := (fun_mk (st := s_UnknownNumber_init) l25 e25 k25), k_UnknownNumber_init := k25,
      bd_UnknownNumber_init := ((fun_mk (st := s_UnknownNumber_init) l25 e25 k25).binds (ps := ["self", "number"]) fun _ _ _ _ _ _ us hl => match us, hl with | [_, _], _ => rfl),
      f_NothingLeft_init := fn26, fd_NothingLeft_init := (PySem.W.fnOf "__init__" "NothingLeft.__init__" (defArgs s_NothingLeft_init) (defBody s_NothingLeft_init) (defScope s_NothingLeft_init) .none kV26 dc26 pm26 an26 cd26 ct26), F_NothingLeft_init := (fun_mk (st := s_NothingLeft_init) l26 e26 k26), k_NothingLeft_init := k26,
      bd_NothingLeft_init := ((fun_mk (st := s_NothingLeft_init) l26 e26 k26).binds (ps := ["self"]) fun _ _ _ _ _ _ us hl => match us, hl with | [_], _ => rfl),
      f_open := fn27, fd_open := (PySem.W.fnOf "_law_open" "_law_open" (defArgs s_open) (defBody s_open) (defScope s_open) .none kV27 dc27 pm27 an27 cd27 ct27), F_open := (fun_mk (st := s_open) l27 e27 k27), k_open := k27,
      g_open := PySem.W.mg_of X G a27,
      bd_open := ((fun_mk (st := s_open) l27 e27 k27).binds (ps := ["_law_script"]) fun _ _ _ _ _ _ us hl => match us, hl with | [_], _ => rfl),
      f_draw := fn28, fd_draw := (PySem.W.fnOf "_law_draw" "_law_draw" (defArgs s_draw) (defBody s_draw) (defScope s_draw) .none kV28 dc28 pm28 an28 cd28 ct28), F_draw := (fun_mk (st := s_draw) l28 e28 k28), k_draw := k28,
      g_draw := PySem.W.mg_of X G a28,
      bd_draw := ((fun_mk (st := s_draw) l28 e28 k28).binds (ps := ["_law_bag", "_law_many"]) fun _ _ _ _ _ _ us hl => match us, hl with | [_, _], _ => rfl),
      f_of := fn29, fd_of := (PySem.W.fnOf "_law_of" "_law_of" (defArgs s_of) (defBody s_of) (defScope s_of) .none kV29 dc29 pm29 an29 cd29 ct29), F_of := (fun_mk (st := s_of) l29 e29 k29), k_of := k29,
      g_of := PySem.W.mg_of X G a29,
      bd_of := ((fun_mk (st := s_of) l29 e29 k29).binds (ps := ["_law_bag", "_law_things"]) fun _ _ _ _ _ _ us hl => match us, hl with | [_, _], _ => rfl),
      f_like := fn30, fd_like := (PySem.W.fnOf "_law_like" "_law_like" (defArgs s_like) (defBody s_like) (defScope s_like) .none kV30 dc30 pm30 an30 cd30 ct30), F_like := (fun_mk (st := s_like) l30 e30 k30), k_like := k30,
      g_like := PySem.W.mg_of X G a30,
      bd_like := ((fun_mk (st := s_like) l30 e30 k30).binds (ps := ["_law_found", "_law_due"]) fun _ _ _ _ _ _ us hl => match us, hl with | [_, _], _ => rfl),
      f_kinds_of := fn31, fd_kinds_of := (PySem.W.fnOf "_law_kinds_of" "_law_kinds_of" (defArgs s_kinds_of) (defBody s_kinds_of) (defScope s_kinds_of) .none kV31 dc31 pm31 an31 cd31 ct31), F_kinds_of := (fun_mk (st := s_kinds_of) l31 e31 k31), k_kinds_of := k31,
      g_kinds_of := PySem.W.mg_of X G a31,
      bd_kinds_of := ((fun_mk (st := s_kinds_of) l31 e31 k31).binds (ps := ["_law_e"]) fun _ _ _ _ _ _ us hl => match us, hl with | [_], _ => rfl),
      f_all_kinds := fn32, fd_all_kinds := (PySem.W.fnOf "_law_all_kinds" "_law_all_kinds" (defArgs s_all_kinds) (defBody s_all_kinds) (defScope s_all_kinds) .none kV32 dc32 pm32 an32 cd32 ct32), F_all_kinds := (fun_mk (st := s_all_kinds) l32 e32 k32), k_all_kinds := k32,
      g_all_kinds := PySem.W.mg_of X G a32,
      bd_all_kinds := ((fun_mk (st := s_all_kinds) l32 e32 k32).binds (ps := ["_law_e"]) fun _ _ _ _ _ _ us hl => match us, hl with | [_], _ => rfl),
      f_law := fa, fd_law := (PySem.W.fnOf "law" "law" (defArgs s_law) (defBody s_law) (defScope s_law) .none kV33 dc33 pm33 an33 cd33 ct33), F_law := (fun_mk (st := s_law) l33 e33 k33), k_law := k33,
      g_law := PySem.W.mg_of X G a33,
      bd_law := ((fun_mk (st := s_law) l33 e33 k33).binds (ps := ["_law_script"]) fun _ _ _ _ _ _ us hl => match us, hl with | [_], _ => rfl),
      b_IndexError := PySem.W.mg_none_of X G z1,
      b_KeyError := PySem.W.mg_none_of X G z2,
      b_LookupError := PySem.W.mg_none_of X G z3,
      b_ValueError := PySem.W.mg_none_of X G z4,
      b_all := PySem.W.mg_none_of X G z5,
      b_bool := PySem.W.mg_none_of X G z6,
      b_enumerate := PySem.W.mg_none_of X G z7,
      b_int := PySem.W.mg_none_of X G z8,
      b_isinstance := PySem.W.mg_none_of X G z9,
      b_len := PySem.W.mg_none_of X G z10,
      b_list := PySem.W.mg_none_of X G z11,
      b_range := PySem.W.mg_none_of X G z12,
      b_str := PySem.W.mg_none_of X G z13,
      b_tuple := PySem.W.mg_none_of X G z14,
      b_zip := PySem.W.mg_none_of X G z15,
      c_PartError := c_PartError,
      g_PartError := PySem.W.mg_of X G y_PartError,
      c_Missing := c_Missing,
      g_Missing := PySem.W.mg_of X G y_Missing,
      c_InvalidRow := c_InvalidRow,
      g_InvalidRow := PySem.W.mg_of X G y_InvalidRow,
      c_InvalidState := c_InvalidState,
      g_InvalidState := PySem.W.mg_of X G y_InvalidState,
      c_InvalidGroup := c_InvalidGroup,
      g_InvalidGroup := PySem.W.mg_of X G y_InvalidGroup,
      c_InvalidCommand := c_InvalidCommand,
      g_InvalidCommand := PySem.W.mg_of X G y_InvalidCommand,
      c_InvalidPart := c_InvalidPart,
      g_InvalidPart := PySem.W.mg_of X G y_InvalidPart,
      c_InvalidMark := c_InvalidMark,
      g_InvalidMark := PySem.W.mg_of X G y_InvalidMark,
      c_InvalidOrder := c_InvalidOrder,
      g_InvalidOrder := PySem.W.mg_of X G y_InvalidOrder,
      c_InvalidAsk := c_InvalidAsk,
      g_InvalidAsk := PySem.W.mg_of X G y_InvalidAsk,
      c_InvalidNumber := c_InvalidNumber,
      g_InvalidNumber := PySem.W.mg_of X G y_InvalidNumber,
      c_InvalidStanding := c_InvalidStanding,
      g_InvalidStanding := PySem.W.mg_of X G y_InvalidStanding,
      c_InvalidKind := c_InvalidKind,
      g_InvalidKind := PySem.W.mg_of X G y_InvalidKind,
      c_InvalidWay := c_InvalidWay,
      g_InvalidWay := PySem.W.mg_of X G y_InvalidWay,
      c_InvalidName := c_InvalidName,
      g_InvalidName := PySem.W.mg_of X G y_InvalidName,
      c_InvalidLimit := c_InvalidLimit,
      g_InvalidLimit := PySem.W.mg_of X G y_InvalidLimit,
      c_InvalidText := c_InvalidText,
      g_InvalidText := PySem.W.mg_of X G y_InvalidText,
      c_DuplicateNumber := c_DuplicateNumber,
      g_DuplicateNumber := PySem.W.mg_of X G y_DuplicateNumber,
      c_DuplicateName := c_DuplicateName,
      g_DuplicateName := PySem.W.mg_of X G y_DuplicateName,
      c_TooMany := c_TooMany,
      g_TooMany := PySem.W.mg_of X G y_TooMany,
      c_WrongReader := c_WrongReader,
      g_WrongReader := PySem.W.mg_of X G y_WrongReader,
      c_Full := c_Full,
      g_Full := PySem.W.mg_of X G y_Full,
      c_PartsDiffer := c_PartsDiffer,
      g_PartsDiffer := PySem.W.mg_of X G y_PartsDiffer,
      c_Ended := c_Ended,
      g_Ended := PySem.W.mg_of X G y_Ended,
      c_UnknownName := c_UnknownName,
      g_UnknownName := PySem.W.mg_of X G y_UnknownName,
      c_UnknownNumber := c_UnknownNumber,
      g_UnknownNumber := PySem.W.mg_of X G y_UnknownNumber,
      c_NothingLeft := c_NothingLeft,
      g_NothingLeft := PySem.W.mg_of X G y_NothingLeft,
      xa_InvalidRow := xcB_ok x1,
      xa_InvalidState := xcB_ok x2,
      xa_InvalidGroup := xcB_ok x3,
      xa_InvalidCommand := xcB_ok x4,
      xa_InvalidPart := xcB_ok x5,
      xa_InvalidMark := xcB_ok x6,
      xa_InvalidOrder := xcB_ok x7,
      xa_InvalidAsk := xcB_ok x8,
      xa_InvalidNumber := xcB_ok x9,
      xa_InvalidStanding := xcB_ok x10,
      xa_InvalidKind := xcB_ok x11,
      xa_InvalidWay := xcB_ok x12,
      xa_InvalidName := xcB_ok x13,
      xa_InvalidLimit := xcB_ok x14,
      xa_InvalidText := xcB_ok x15,
      xa_DuplicateNumber := xcB_ok x16,
      xa_DuplicateName := xcB_ok x17,
      xa_TooMany := xcB_ok x18,
      xa_WrongReader := xcB_ok x19,
      xa_Full := xcB_ok x20,
      xa_PartsDiffer := xcB_ok x21,
      xa_Ended := xcB_ok x22,
      xa_UnknownName := xcB_ok x23,
      xa_UnknownNumber := xcB_ok x24,
      xa_NothingLeft := xcB_ok x25,
      kx := x26 }
  exact ⟨T.fd_law, fun s v => .of_eq rfl, fun base _ _ => ok_law T⟩
theorem walk {l : PySem.W.OpenLaw} {q : Program} {loose : List Str} {XP : (Str → Option Value) → Heap → Prop} {YP : World → Heap → Prop} {d : DefRec} {K : Params → PySem.W.Frag} (hn : l.most = some 63) (hdf : d.params.defaults = [])
    (hY : ∀ (w : World) (h : Heap), YP w h → (K w.params).In h)
    (F : ∀ (w : World) (mg : Str → Option Value) (fa : Addr) (h : Heap), (K w.params).In h → h.Ns mainGlobals mg → mg d.name = some (.ref fa) →
      ∃ fd : FuncData, (∀ (s : Shared) (u : Value), BindsTo s fd ⟨[u], []⟩ [("_law_script", u)]) ∧ ∀ base : Heap, (K w.params).In base → base.Ns mainGlobals mg → FnOk l.prog w (K w.params) mg base CX0 18 fa fd ["_law_script"] (spLaw (K w.params))) :
    PySem.W.WalkO q loose XP YP l.row.toRowW d [] (fun f vs => PySem.call f vs) :=
  L2.walk_of (n := 63) (k := 18) (x := "_law_script") (CX := fun _ => CX0) (sp := fun w => spLaw (K w.params)) hn (by decide) hdf ⟨rfl, by decide, by decide⟩ hY F (fun _ _ a ns hl _ hS => ⟨a, ns, rfl, hS, hl, fun _ => rfl⟩) fun _ _ _ _ _ z => z
end Pf
open PySem PySem.W PyProof.Rows
set_option maxRecDepth 100000 in
set_option maxHeartbeats 0 in
theorem PySem.Challenge.cw_partfirsts_k70_errors_and_their_classes_holds : PySem.Challenge.rw_partfirsts_k70_errors_and_their_classes.Holds := by
  w_on; o_law; k_head; (case hw => w_witness2)
  k_fill
  refine Pf.walk (l := PySem.Challenge.rw_partfirsts_k70_errors_and_their_classes) rfl rfl (fun w h Y => PySem.W.kIn_of Y) ?F
  case F =>
    intro w mg fa h KX G hmg
    refine' Pf.all_mk KX G hmg ?y_PartError ?y_Missing ?y_InvalidRow ?y_InvalidState ?y_InvalidGroup ?y_InvalidCommand ?y_InvalidPart ?y_InvalidMark ?y_InvalidOrder ?y_InvalidAsk ?y_InvalidNumber ?y_InvalidStanding ?y_InvalidKind ?y_InvalidWay ?y_InvalidName ?y_InvalidLimit ?y_InvalidText ?y_DuplicateNumber ?y_DuplicateName ?y_TooMany ?y_WrongReader ?y_Full ?y_PartsDiffer ?y_Ended ?y_UnknownName ?y_UnknownNumber ?y_NothingLeft ?a1 ?l1 ?e1 ?k1 ?a2 ?l2 ?e2 ?k2 ?a3 ?l3 ?e3 ?k3 ?a4 ?l4 ?e4 ?k4 ?a5 ?l5 ?e5 ?k5 ?a6 ?l6 ?e6 ?k6 ?a7 ?l7 ?e7 ?k7 ?a8 ?l8 ?e8 ?k8 ?a9 ?l9 ?e9 ?k9 ?a10 ?l10 ?e10 ?k10 ?a11 ?l11 ?e11 ?k11 ?a12 ?l12 ?e12 ?k12 ?a13 ?l13 ?e13 ?k13 ?a14 ?l14 ?e14 ?k14 ?a15 ?l15 ?e15 ?k15 ?a16 ?l16 ?e16 ?k16 ?a17 ?l17 ?e17 ?k17 ?a18 ?l18 ?e18 ?k18 ?a19 ?l19 ?e19 ?k19 ?a20 ?l20 ?e20 ?k20 ?a21 ?l21 ?e21 ?k21 ?a22 ?l22 ?e22 ?k22 ?a23 ?l23 ?e23 ?k23 ?a24 ?l24 ?e24 ?k24 ?a25 ?l25 ?e25 ?k25 ?a26 ?l26 ?e26 ?k26 ?a27 ?l27 ?e27 ?k27 ?a28 ?l28 ?e28 ?k28 ?a29 ?l29 ?e29 ?k29 ?a30 ?l30 ?e30 ?k30 ?a31 ?l31 ?e31 ?k31 ?a32 ?l32 ?e32 ?k32 ?a33 ?l33 ?e33 ?k33 ?z1 ?z2 ?z3 ?z4 ?z5 ?z6 ?z7 ?z8 ?z9 ?z10 ?z11 ?z12 ?z13 ?z14 ?z15 ?x1 ?x2 ?x3 ?x4 ?x5 ?x6 ?x7 ?x8 ?x9 ?x10 ?x11 ?x12 ?x13 ?x14 ?x15 ?x16 ?x17 ?x18 ?x19 ?x20 ?x21 ?x22 ?x23 ?x24 ?x25 ?x26
    (case y_PartError => k_is)
    (case y_Missing => k_is)
    (case y_InvalidRow => k_is)
    (case y_InvalidState => k_is)
    (case y_InvalidGroup => k_is)
    (case y_InvalidCommand => k_is)
    (case y_InvalidPart => k_is)
    (case y_InvalidMark => k_is)
    (case y_InvalidOrder => k_is)
    (case y_InvalidAsk => k_is)
    (case y_InvalidNumber => k_is)
    (case y_InvalidStanding => k_is)
    (case y_InvalidKind => k_is)
    (case y_InvalidWay => k_is)
    (case y_InvalidName => k_is)
    (case y_InvalidLimit => k_is)
    (case y_InvalidText => k_is)
    (case y_DuplicateNumber => k_is)
    (case y_DuplicateName => k_is)
    (case y_TooMany => k_is)
    (case y_WrongReader => k_is)
    (case y_Full => k_is)
    (case y_PartsDiffer => k_is)
    (case y_Ended => k_is)
    (case y_UnknownName => k_is)
    (case y_UnknownNumber => k_is)
    (case y_NothingLeft => k_is)
    (case a1 => k_is)
    (case l1 => k_is)
    (case e1 => k_is)
    (case k1 => k_is)
    (case a2 => k_is)
    (case l2 => k_is)
    (case e2 => k_is)
    (case k2 => k_is)
    (case a3 => k_is)
    (case l3 => k_is)
    (case e3 => k_is)
    (case k3 => k_is)
    (case a4 => k_is)
    (case l4 => k_is)
    (case e4 => k_is)
    (case k4 => k_is)
    (case a5 => k_is)
    (case l5 => k_is)
    (case e5 => k_is)
    (case k5 => k_is)
    (case a6 => k_is)
    (case l6 => k_is)
    (case e6 => k_is)
    (case k6 => k_is)
    (case a7 => k_is)
    (case l7 => k_is)
    (case e7 => k_is)
    (case k7 => k_is)
    (case a8 => k_is)
    (case l8 => k_is)
    (case e8 => k_is)
    (case k8 => k_is)
    (case a9 => k_is)
    (case l9 => k_is)
    (case e9 => k_is)
    (case k9 => k_is)
    (case a10 => k_is)
    (case l10 => k_is)
    (case e10 => k_is)
    (case k10 => k_is)
    (case a11 => k_is)
    (case l11 => k_is)
    (case e11 => k_is)
    (case k11 => k_is)
    (case a12 => k_is)
    (case l12 => k_is)
    (case e12 => k_is)
    (case k12 => k_is)
    (case a13 => k_is)
    (case l13 => k_is)
    (case e13 => k_is)
    (case k13 => k_is)
    (case a14 => k_is)
    (case l14 => k_is)
    (case e14 => k_is)
    (case k14 => k_is)
    (case a15 => k_is)
    (case l15 => k_is)
    (case e15 => k_is)
    (case k15 => k_is)
    (case a16 => k_is)
    (case l16 => k_is)
    (case e16 => k_is)
    (case k16 => k_is)
    (case a17 => k_is)
    (case l17 => k_is)
    (case e17 => k_is)
    (case k17 => k_is)
    (case a18 => k_is)
    (case l18 => k_is)
    (case e18 => k_is)
    (case k18 => k_is)
    (case a19 => k_is)
    (case l19 => k_is)
    (case e19 => k_is)
    (case k19 => k_is)
    (case a20 => k_is)
    (case l20 => k_is)
    (case e20 => k_is)
    (case k20 => k_is)
    (case a21 => k_is)
    (case l21 => k_is)
    (case e21 => k_is)
    (case k21 => k_is)
    (case a22 => k_is)
    (case l22 => k_is)
    (case e22 => k_is)
    (case k22 => k_is)
    (case a23 => k_is)
    (case l23 => k_is)
    (case e23 => k_is)
    (case k23 => k_is)
    (case a24 => k_is)
    (case l24 => k_is)
    (case e24 => k_is)
    (case k24 => k_is)
    (case a25 => k_is)
    (case l25 => k_is)
    (case e25 => k_is)
    (case k25 => k_is)
    (case a26 => k_is)
    (case l26 => k_is)
    (case e26 => k_is)
    (case k26 => k_is)
    (case a27 => k_is)
    (case l27 => k_is)
    (case e27 => k_is)
    (case k27 => k_is)
    (case a28 => k_is)
    (case l28 => k_is)
    (case e28 => k_is)
    (case k28 => k_is)
    (case a29 => k_is)
    (case l29 => k_is)
    (case e29 => k_is)
    (case k29 => k_is)
    (case a30 => k_is)
    (case l30 => k_is)
    (case e30 => k_is)
    (case k30 => k_is)
    (case a31 => k_is)
    (case l31 => k_is)
    (case e31 => k_is)
    (case k31 => k_is)
    (case a32 => k_is)
    (case l32 => k_is)
    (case e32 => k_is)
    (case k32 => k_is)
    (case a33 => k_is)
    (case l33 => k_is)
    (case e33 => k_is)
    (case k33 => k_is)
    (case z1 => k_is)
    (case z2 => k_is)
    (case z3 => k_is)
    (case z4 => k_is)
    (case z5 => k_is)
    (case z6 => k_is)
    (case z7 => k_is)
    (case z8 => k_is)
    (case z9 => k_is)
    (case z10 => k_is)
    (case z11 => k_is)
    (case z12 => k_is)
    (case z13 => k_is)
    (case z14 => k_is)
    (case z15 => k_is)
    (case x1 => kernel_rfl)
    (case x2 => kernel_rfl)
    (case x3 => kernel_rfl)
    (case x4 => kernel_rfl)
    (case x5 => kernel_rfl)
    (case x6 => kernel_rfl)
    (case x7 => kernel_rfl)
    (case x8 => kernel_rfl)
    (case x9 => kernel_rfl)
    (case x10 => kernel_rfl)
    (case x11 => kernel_rfl)
    (case x12 => kernel_rfl)
    (case x13 => kernel_rfl)
    (case x14 => kernel_rfl)
    (case x15 => kernel_rfl)
    (case x16 => kernel_rfl)
    (case x17 => kernel_rfl)
    (case x18 => kernel_rfl)
    (case x19 => kernel_rfl)
    (case x20 => kernel_rfl)
    (case x21 => kernel_rfl)
    (case x22 => kernel_rfl)
    (case x23 => kernel_rfl)
    (case x24 => kernel_rfl)
    (case x25 => kernel_rfl)
    (case x26 => kernel_rfl)
#print axioms PySem.Challenge.cw_partfirsts_k70_errors_and_their_classes_holds
