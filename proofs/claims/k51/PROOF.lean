import PyProof.Rows.All
import Wide.All
import OpenK.AllK
import Wide.FinOn
import HandS.ForMost
import HandS.IsInst
import HandS.Zip
import HandS.Walk
import HandS.ExcInit
import KE.GoesEnum
import KE.SortData
import HandS.MakeKwOnly
import HandS.Property
import HandS.ClsMeth
import HandS.FStr
import HandS.SlotsOwn
import HandS.Style
import HandS.Conv
import HandS.TupAny
import HandS.SetFor
import HandS.Deep
import HandS.Strs
import PySem.Challenge.RW_partfirsts_k51_windows_told
set_option Elab.async false
set_option linter.all false
set_option maxRecDepth 100000
set_option maxHeartbeats 4000000
/-! data without a heap: D; what bears it: Rep; a judgement that speaks of data alone: Ev, Do -/
namespace Pf
open PySem L2

/-- data -/
inductive D where
  | non | bl (b : Bool) | int (i : Int) | str (x : Str)
  | lst (ds : List D) | tup (ds : List D)
  | dic (kvs : List (Key × D))
  | ins (C : Addr) (fs : List (Str × D))
  | ty (n : String) | adr (a : Addr)
  | exc (C : Addr) (fs : List (Str × D))

/-- the heap without what is hidden -/
def hd (M : Addr → Bool) (H : Hp) : Hp := fun a => if M a = true then none else H a
theorem hd_of {M : Addr → Bool} {H : Hp} {a : Addr} {o : HO} (h : hd M H a = some o) : M a = false ∧ H a = some o := by
  unfold hd at h
  cases e : M a with
  | true => rw [e, if_pos rfl] at h; cases h
  | false => rw [e, if_neg Bool.false_ne_true] at h; exact ⟨rfl, h⟩
theorem hd_at {M : Addr → Bool} {H : Hp} {a : Addr} {o : HO} (m : M a = false) (h : H a = some o) : hd M H a = some o := by
  unfold hd
  rw [m, if_neg Bool.false_ne_true]
  exact h
theorem same_hd (M : Addr → Bool) (H : Hp) : Same (hd M H) H := fun _ _ h => (hd_of h).2
theorem same_hd_le {M N : Addr → Bool} {H : Hp} (h : ∀ a, M a = true → N a = true) : Same (hd N H) (hd M H) := fun a o e => by
  obtain ⟨h1, h2⟩ := hd_of e
  refine hd_at ?_ h2
  cases q : M a with
  | true => rw [h a q] at h1; cases h1
  | false => rfl
theorem same_tup {K : PySem.W.Frag} {H H' : Hp} {a : Addr} {xs : List V} (e : Same H H') (h : SqT K H a xs) : SqT K H' a xs := by
  rcases h with (h | ⟨o, h⟩) | h
  · exact .inl (.inl (e _ _ h))
  · exact .inl (.inr ⟨o, e _ _ h⟩)
  · exact .inr h
theorem same_new {H : Hp} {p : Addr} {o : HO} (h : H p = none) : Same H (upd H p o) := fun a u e => by
  rw [upd_ne (ne_of_none e h)]
  exact e

mutual
inductive Rep (K : PySem.W.Frag) (H : Hp) : V → D → Prop
  | non : Rep K H .non .non
  | bl (b : Bool) : Rep K H (.bl b) (.bl b)
  | int (i : Int) : Rep K H (.int i) (.int i)
  | str (x : Str) : Rep K H (.str x) (.str x)
  | lst {a : Addr} {xs : List V} {ds : List D} : H a = some (.lst xs) → RepL K H xs ds → Rep K H (.ref a) (.lst ds)
  | tup {a : Addr} {xs : List V} {ds : List D} : SqT K H a xs → RepL K H xs ds → Rep K H (.ref a) (.tup ds)
  | dic {a : Addr} {kvs : List (Key × V)} {ds : List (Key × D)} : H a = some (.dK kvs) → RepK K H kvs ds → Rep K H (.ref a) (.dic ds)
  | ins {a C dx : Addr} {fs : List (Str × V)} {ds : List (Str × D)} : H a = some (.ins C dx fs) → RepF K H fs ds → Rep K H (.ref a) (.ins C ds)
  | ty (n : String) : Rep K H (.ty n) (.ty n)
  | adr (a : Addr) : Rep K H (.ref a) (.adr a)
  | exc {a C dx : Addr} {fs : List (Str × V)} {ds : List (Str × D)} : H a = some (exo a C (some dx)) → H dx = some (exd dx fs) → RepF K H fs ds → Rep K H (.ref a) (.exc C ds)
inductive RepL (K : PySem.W.Frag) (H : Hp) : List V → List D → Prop
  | nil : RepL K H [] []
  | cons {v : V} {vs : List V} {d : D} {ds : List D} : Rep K H v d → RepL K H vs ds → RepL K H (v :: vs) (d :: ds)
inductive RepK (K : PySem.W.Frag) (H : Hp) : List (Key × V) → List (Key × D) → Prop
  | nil : RepK K H [] []
  | cons {k : Key} {v : V} {vs : List (Key × V)} {d : D} {ds : List (Key × D)} : Rep K H v d → RepK K H vs ds → RepK K H ((k, v) :: vs) ((k, d) :: ds)
inductive RepF (K : PySem.W.Frag) (H : Hp) : List (Str × V) → List (Str × D) → Prop
  | nil : RepF K H [] []
  | cons {k : Str} {v : V} {vs : List (Str × V)} {d : D} {ds : List (Str × D)} : Rep K H v d → RepF K H vs ds → RepF K H ((k, v) :: vs) ((k, d) :: ds)
end
section
variable {K : PySem.W.Frag} {H H' : Hp}
mutual
theorem Rep.mono (e : Same H H') : ∀ {v : V} {d : D}, Rep K H v d → Rep K H' v d
  | _, _, .non => .non
  | _, _, .bl b => .bl b
  | _, _, .int i => .int i
  | _, _, .str x => .str x
  | _, _, .lst h r => .lst (e _ _ h) (RepL.mono e r)
  | _, _, .tup h r => .tup (same_tup e h) (RepL.mono e r)
  | _, _, .dic h r => .dic (e _ _ h) (RepK.mono e r)
  | _, _, .ins h r => .ins (e _ _ h) (RepF.mono e r)
  | _, _, .ty n => .ty n
  | _, _, .adr a => .adr a
  | _, _, .exc h g r => .exc (e _ _ h) (e _ _ g) (RepF.mono e r)
theorem RepL.mono (e : Same H H') : ∀ {v : List V} {d : List D}, RepL K H v d → RepL K H' v d
  | _, _, .nil => .nil
  | _, _, .cons h r => .cons (Rep.mono e h) (RepL.mono e r)
theorem RepK.mono (e : Same H H') : ∀ {v : List (Key × V)} {d : List (Key × D)}, RepK K H v d → RepK K H' v d
  | _, _, .nil => .nil
  | _, _, .cons h r => .cons (Rep.mono e h) (RepK.mono e r)
theorem RepF.mono (e : Same H H') : ∀ {v : List (Str × V)} {d : List (Str × D)}, RepF K H v d → RepF K H' v d
  | _, _, .nil => .nil
  | _, _, .cons h r => .cons (Rep.mono e h) (RepF.mono e r)
end
theorem RepL.length : ∀ {vs : List V} {ds : List D}, RepL K H vs ds → vs.length = ds.length
  | _, _, .nil => rfl
  | _, _, .cons _ r => congrArg Nat.succ (RepL.length r)
theorem RepL.get : ∀ {vs : List V} {ds : List D} {i : Nat} {d : D}, RepL K H vs ds → ds[i]? = some d → ∃ v, vs[i]? = some v ∧ Rep K H v d
  | _, _, _, _, .nil, e => by simp at e
  | _, _, 0, _, .cons h _, e => by simp at e; subst e; exact ⟨_, rfl, h⟩
  | _, _, i + 1, d, .cons _ r, e => by
    obtain ⟨v, h1, h2⟩ := RepL.get (i := i) (d := d) r (by simpa using e)
    exact ⟨v, by simpa using h1, h2⟩
theorem RepL.getV : ∀ {vs : List V} {ds : List D} {i : Nat} {v : V}, RepL K H vs ds → vs[i]? = some v → ∃ d, ds[i]? = some d ∧ Rep K H v d
  | _, _, _, _, .nil, e => by simp at e
  | _, _, 0, _, .cons h _, e => by simp at e; subst e; exact ⟨_, rfl, h⟩
  | _, _, i + 1, d, .cons _ r, e => by
    obtain ⟨v, h1, h2⟩ := RepL.getV (i := i) (v := d) r (by simpa using e)
    exact ⟨v, by simpa using h1, h2⟩
theorem RepL.append : ∀ {vs ws : List V} {ds es : List D}, RepL K H vs ds → RepL K H ws es → RepL K H (vs ++ ws) (ds ++ es)
  | _, _, _, _, .nil, s => s
  | _, _, _, _, .cons h r, s => .cons h (RepL.append r s)
theorem RepL.one {v : V} {d : D} (h : Rep K H v d) : RepL K H [v] [d] := .cons h .nil
theorem RepL.drop : ∀ {vs : List V} {ds : List D} (n : Nat), RepL K H vs ds → RepL K H (vs.drop n) (ds.drop n)
  | _, _, 0, r => r
  | _, _, _ + 1, .nil => .nil
  | _, _, n + 1, .cons _ r => RepL.drop n r
theorem RepL.take : ∀ {vs : List V} {ds : List D} (n : Nat), RepL K H vs ds → RepL K H (vs.take n) (ds.take n)
  | _, _, 0, _ => .nil
  | _, _, _ + 1, .nil => .nil
  | _, _, n + 1, .cons h r => .cons h (RepL.take n r)
theorem RepK.look : ∀ {vs : List (Key × V)} {ds : List (Key × D)}, RepK K H vs ds → vs.map (·.1) = ds.map (·.1)
  | _, _, .nil => rfl
  | _, _, .cons _ r => by simp only [List.map_cons, RepK.look r]
theorem RepF.get : ∀ {vs : List (Str × V)} {ds : List (Str × D)} {f : Str} {d : D}, RepF K H vs ds → ds.lookup f = some d → ∃ v, vs.lookup f = some v ∧ Rep K H v d
  | _, _, _, _, .nil, e => by simp at e
  | _, _, f, d, .cons (k := k) h r, e => by
    rw [List.lookup_cons] at e ⊢
    cases q : f == k with
    | true =>
      rw [q] at e
      cases e
      exact ⟨_, rfl, h⟩
    | false =>
      rw [q] at e
      exact RepF.get r e
theorem RepF.none : ∀ {vs : List (Str × V)} {ds : List (Str × D)} {f : Str}, RepF K H vs ds → ds.lookup f = Option.none → vs.lookup f = Option.none
  | _, _, _, .nil, e => by simp
  | _, _, f, .cons (k := k) h r, e => by
    rw [List.lookup_cons] at e ⊢
    cases q : f == k with
    | true =>
      rw [q] at e
      cases e
    | false =>
      rw [q] at e
      exact RepF.none r e
end

/-! an object of one's own: a list, a dict, an instance -/
inductive OD where
  | lst (ds : List D) | dic (kvs : List (Key × D)) | ins (C : Addr) (fs : List (Str × D))
inductive RepO (K : PySem.W.Frag) (H : Hp) : HO → OD → Prop
  | lst {xs : List V} {ds : List D} : RepL K H xs ds → RepO K H (.lst xs) (.lst ds)
  | dic {kvs : List (Key × V)} {ds : List (Key × D)} : RepK K H kvs ds → RepO K H (.dK kvs) (.dic ds)
  | ins {C dx : Addr} {fs : List (Str × V)} {ds : List (Str × D)} : RepF K H fs ds → RepO K H (.ins C dx fs) (.ins C ds)
theorem RepO.mono {K : PySem.W.Frag} {H H' : Hp} (e : Same H H') {o : HO} {d : OD} (h : RepO K H o d) : RepO K H' o d := by
  cases h with
  | lst r => exact .lst (r.mono e)
  | dic r => exact .dic (r.mono e)
  | ins r => exact .ins (r.mono e)
/-- as data -/
def OD.d : OD → D
  | .lst ds => .lst ds | .dic kvs => .dic kvs | .ins C fs => .ins C fs
theorem RepO.rep {K : PySem.W.Frag} {H : Hp} {a : Addr} {o : HO} {d : OD} (h : RepO K H o d) (e : H a = some o) : Rep K H (.ref a) d.d := by
  cases h with
  | lst r => exact .lst e r
  | dic r => exact .dic e r
  | ins r => exact .ins e r

/-! ### the bag of the draws -/
def BagAt (H : Hp) (b c : Addr) : Prop := ∃ (ns : List Int) (i : Nat) (z s t : Int),
  H b = some (.lst [.ref c, .int (i : Int), .int z, .int s, .int t]) ∧ c ≠ b ∧ H c = some (.lst (ns.map V.int)) ∧ i ≤ ns.length ∧ ns.length ≤ 63 ∧ 0 ≤ z ∧ 0 ≤ s ∧ s < 2147483587 ∧ 0 ≤ t
theorem BagAt.mono {H H' : Hp} {b c : Addr} (e : Same H H') : BagAt H b c → BagAt H' b c := fun ⟨ns, i, z, s, t, h1, h2, h3, h4⟩ =>
  ⟨ns, i, z, s, t, e _ _ h1, h2, e _ _ h3, h4⟩
theorem BagAt.at {H : Hp} {b c : Addr} (h : BagAt H b c) : ∃ o, H b = some o := by
  obtain ⟨ns, i, z, s, t, h1, _⟩ := h
  exact ⟨_, h1⟩

/-! ### the frame of a def -/
structure Fm where
  K : PySem.W.Frag
  B : Option Addr
  M0 : Addr → Bool
  H0 : Hp
  E : XK
  C0 : Addr
  T : List Addr
/-- what may change: the bag, the tables of code objects -/
def Fm.mv (F : Fm) (a : Addr) : Prop := F.B = some a ∨ a ∈ F.T
theorem mv_none {F : Fm} (hB : F.B = none) (hT : F.T = []) (a : Addr) : ¬ F.mv a := fun z => by
  rcases z with z | z
  · rw [hB] at z; cases z
  · rw [hT] at z; cases z
theorem mv_bag {F : Fm} {b : Addr} (hB : F.B = some b) (hT : F.T = []) {a : Addr} (h : a ≠ b) : ¬ F.mv a := fun z => by
  rcases z with z | z
  · rw [hB] at z; exact h (Option.some.inj z).symm
  · rw [hT] at z; cases z
/-- all but the bag is kept -/
def StepB (P : Addr → Prop) (H H' : Hp) : Prop := ∀ a o, ¬ P a → H a = some o → H' a = some o
theorem StepB.refl (B : Addr → Prop) (H : Hp) : StepB B H H := fun _ _ _ h => h
theorem StepB.trans {B : Addr → Prop} {H H1 H2 : Hp} (a : StepB B H H1) (b : StepB B H1 H2) : StepB B H H2 := fun c o n h => b c o n (a c o n h)
theorem StepB.of {B : Addr → Prop} {H H' : Hp} (e : Same H H') : StepB B H H' := fun a o _ h => e a o h
/-- what a slot bears -/
inductive SD where
  | un | dat (d : D) | own (p : Addr) (ds : OD) | bag | sq (ds : List D) | sl (ds : List D)
def SlotOk (F : Fm) (M : Addr → Bool) (H : Hp) (s : Option V) : SD → Prop
  | .un => True
  | .dat d => ∃ v, s = some v ∧ Rep F.K (hd M H) v d
  | .own p ds => s = some (.ref p) ∧ M p = true ∧ ∃ vs, H p = some vs ∧ RepO F.K (hd M H) vs ds
  | .bag => ∃ b, F.B = some b ∧ s = some (.ref b)
  | .sq ds => ∃ p vs, s = some (.ref p) ∧ ¬ F.mv p ∧ (SqL F.K F.H0 p vs ∨ SqT F.K F.H0 p vs) ∧ RepL F.K (hd M H) vs ds
  | .sl ds => ∃ p vs, s = some (.ref p) ∧ ¬ F.mv p ∧ SqL F.K F.H0 p vs ∧ RepL F.K (hd M H) vs ds
structure Ctx (F : Fm) (M : Addr → Bool) (σ : L2.St) (H : Hp) (δ : List SD) : Prop where
  al : ∀ a, M a = true → ∃ o, H a = some o
  al0 : ∀ a, F.M0 a = true → ∃ o, F.H0 a = some o
  m0 : ∀ a, F.M0 a = true → M a = true
  fr : StepB F.mv F.H0 H
  bg : (∀ b, F.B = some b → F.M0 b = true ∧ BagAt H b F.C0 ∧ ∃ o, F.H0 F.C0 = some o) ∧ ∀ a ∈ F.T, F.M0 a = true ∧ ∃ ps, H a = some (.tbl ps)
  ln : σ.length = δ.length
  sl : ∀ (i : Nat) (x : SD), δ[i]? = some x → ∃ s, σ[i]? = some s ∧ SlotOk F M H s x
  dj : ∀ (i j : Nat) (p : Addr) (ds es : OD), δ[i]? = some (.own p ds) → δ[j]? = some (.own p es) → i = j
  oh : ∀ (i : Nat) (p : Addr) (ds : OD), δ[i]? = some (.own p ds) → F.H0 p = none ∧ ¬ F.mv p
section
variable {F : Fm} {M M' : Addr → Bool} {σ : L2.St} {H H' : Hp} {δ : List SD}
theorem hd_step (c : Ctx F M σ H δ) (e : StepB F.mv H H') : Same (hd M H) (hd M H') := fun a o h => by
  obtain ⟨m, h1⟩ := hd_of h
  refine hd_at m (e a o (fun z => ?_) h1)
  have q := c.m0 a (z.elim (fun z => (c.bg.1 a z).1) fun z => (c.bg.2 a z).1)
  rw [m] at q
  cases q
theorem SlotOk.step (c : Ctx F M σ H δ) (e : StepB F.mv H H') {s : Option V} {x : SD} (hx : ∀ p ds, x = .own p ds → ¬ F.mv p) (h : SlotOk F M H s x) : SlotOk F M H' s x := by
  cases x with
  | un => trivial
  | dat d =>
    obtain ⟨v, h1, h2⟩ := h
    exact ⟨v, h1, h2.mono (hd_step c e)⟩
  | own p ds =>
    obtain ⟨h1, h2, vs, h3, h4⟩ := h
    exact ⟨h1, h2, vs, e p _ (hx p ds rfl) h3, h4.mono (hd_step c e)⟩
  | bag => exact h
  | sq ds =>
    obtain ⟨p, vs, h1, h2, h3, h4⟩ := h
    exact ⟨p, vs, h1, h2, h3, h4.mono (hd_step c e)⟩
  | sl ds =>
    obtain ⟨p, vs, h1, h2, h3, h4⟩ := h
    exact ⟨p, vs, h1, h2, h3, h4.mono (hd_step c e)⟩
/-- all but the bag is kept, the bag stays a bag -/
theorem Ctx.stepG (c : Ctx F M σ H δ) (e : StepB F.mv H H') (bg : (∀ b, F.B = some b → F.M0 b = true ∧ BagAt H' b F.C0 ∧ ∃ o, F.H0 F.C0 = some o) ∧ ∀ a ∈ F.T, F.M0 a = true ∧ ∃ ps, H' a = some (.tbl ps)) : Ctx F M σ H' δ := by
  refine ⟨fun a m => ?_, c.al0, c.m0, c.fr.trans e, bg, c.ln, fun i x hx => ?_, c.dj, c.oh⟩
  · by_cases z : F.mv a
    · rcases z with z | z
      · obtain ⟨_, h2, _⟩ := bg.1 a z
        exact h2.at
      · obtain ⟨_, ps, h2⟩ := bg.2 a z
        exact ⟨_, h2⟩
    · obtain ⟨o, h⟩ := c.al a m
      exact ⟨o, e a o z h⟩
  · obtain ⟨s, h1, h2⟩ := c.sl i x hx
    refine ⟨s, h1, h2.step c e fun p ds z => ?_⟩
    subst z
    exact (c.oh i p ds hx).2
theorem Ctx.step (c : Ctx F M σ H δ) (e : StepB F.mv H H') (hb : ∀ b, F.B = some b → BagAt H b F.C0 → BagAt H' b F.C0) (ht : ∀ a ∈ F.T, ∀ ps, H a = some (.tbl ps) → ∃ ps', H' a = some (.tbl ps')) : Ctx F M σ H' δ :=
  c.stepG e ⟨fun b z => by
    obtain ⟨h1, h2, h3⟩ := c.bg.1 b z
    exact ⟨h1, hb b z h2, h3⟩, fun a h => by
    obtain ⟨h1, ps, h2⟩ := c.bg.2 a h
    exact ⟨h1, ht a h ps h2⟩⟩
theorem Ctx.same (c : Ctx F M σ H δ) (e : Same H H') : Ctx F M σ H' δ := c.step (StepB.of e) (fun b z h => h.mono e) fun a _ ps h => ⟨ps, e _ _ h⟩
theorem Ctx.get (c : Ctx F M σ H δ) {i : Nat} {d : D} (h : δ[i]? = some (.dat d)) : ∃ v, σ[i]? = some (some v) ∧ Rep F.K (hd M H) v d := by
  obtain ⟨s, h1, v, h2, h3⟩ := c.sl i _ h
  subst h2
  exact ⟨v, h1, h3⟩
theorem Ctx.set (c : Ctx F M σ H δ) (i : Nat) {v : V} {d : D} (r : Rep F.K (hd M H) v d) : Ctx F M (σ.set i (some v)) H (δ.set i (.dat d)) := by
  have key : ∀ (j : Nat) (x : SD), (δ.set i (.dat d))[j]? = some x → (i = j ∧ x = .dat d) ∨ (i ≠ j ∧ δ[j]? = some x) := fun j x hx => by
    by_cases hj : i = j
    · subst hj
      rw [List.getElem?_set] at hx
      rw [if_pos rfl] at hx
      split at hx
      · exact .inl ⟨rfl, (Option.some.inj hx).symm⟩
      · cases hx
    · rw [List.getElem?_set_ne hj] at hx
      exact .inr ⟨hj, hx⟩
  refine ⟨c.al, c.al0, c.m0, c.fr, c.bg, by rw [List.length_set, List.length_set, c.ln], fun j x hx => ?_, fun j k p ds es h1 h2 => ?_, fun j p ds h => ?_⟩
  · rcases key j x hx with ⟨rfl, rfl⟩ | ⟨hj, hx⟩
    · have hl : i < σ.length := by
        have := (List.getElem?_eq_some_iff.mp hx).1
        rw [List.length_set] at this
        rw [c.ln]
        exact this
      exact ⟨some v, by rw [List.getElem?_set_self hl], v, rfl, r⟩
    · rw [List.getElem?_set_ne hj]
      exact c.sl j x hx
  · rcases key j _ h1 with ⟨_, z⟩ | ⟨_, h1⟩
    · cases z
    rcases key k _ h2 with ⟨_, z⟩ | ⟨_, h2⟩
    · cases z
    exact c.dj j k p ds es h1 h2
  · rcases key j _ h with ⟨_, z⟩ | ⟨_, h⟩
    · cases z
    exact c.oh j p ds h
/-- a slot forgotten -/
theorem Ctx.drop (c : Ctx F M σ H δ) (i : Nat) (s : Option V) : Ctx F M (σ.set i s) H (δ.set i .un) := by
  have key : ∀ (j : Nat) (x : SD), (δ.set i .un)[j]? = some x → (i = j ∧ x = .un) ∨ (i ≠ j ∧ δ[j]? = some x) := fun j x hx => by
    by_cases hj : i = j
    · subst hj
      rw [List.getElem?_set] at hx
      rw [if_pos rfl] at hx
      split at hx
      · exact .inl ⟨rfl, (Option.some.inj hx).symm⟩
      · cases hx
    · rw [List.getElem?_set_ne hj] at hx
      exact .inr ⟨hj, hx⟩
  refine ⟨c.al, c.al0, c.m0, c.fr, c.bg, by rw [List.length_set, List.length_set, c.ln], fun j x hx => ?_, fun j k p ds es h1 h2 => ?_, fun j p ds h => ?_⟩
  · rcases key j x hx with ⟨rfl, rfl⟩ | ⟨hj, hx⟩
    · have hl : i < σ.length := by
        have := (List.getElem?_eq_some_iff.mp hx).1
        rw [List.length_set] at this
        rw [c.ln]
        exact this
      exact ⟨s, by rw [List.getElem?_set_self hl], trivial⟩
    · rw [List.getElem?_set_ne hj]
      exact c.sl j x hx
  · rcases key j _ h1 with ⟨_, z⟩ | ⟨_, h1⟩
    · cases z
    rcases key k _ h2 with ⟨_, z⟩ | ⟨_, h2⟩
    · cases z
    exact c.dj j k p ds es h1 h2
  · rcases key j _ h with ⟨_, z⟩ | ⟨_, h⟩
    · cases z
    exact c.oh j p ds h
def wipeD (δ : List SD) : List Nat → List SD
  | [] => δ
  | v :: vs => (wipeD δ vs).set v .un
theorem Ctx.wipe (c : Ctx F M σ H δ) : ∀ vs : List Nat, Ctx F M (wipe σ vs) H (wipeD δ vs)
  | [] => c
  | v :: vs => (Ctx.wipe c vs).drop v none
end

/-! ### judgements -/
def Ev (F : Fm) (te : TE) (δ : List SD) (P : D → Prop) : Prop := ∀ M σ H (Q : VK), Ctx F M σ H δ →
  (∀ v d H', P d → Ctx F M σ H' δ → StepB F.mv H H' → Rep F.K (hd M H') v d → Q v H') → te σ H Q
def EvT (F : Fm) (tt : TT) (δ : List SD) (P : Bool → Prop) : Prop := ∀ M σ H (Q : Bool → Hp → Prop), Ctx F M σ H δ →
  (∀ b H', P b → Ctx F M σ H' δ → StepB F.mv H H' → Q b H') → tt σ H Q
def EvA (F : Fm) (ta : TA) (δ : List SD) (P : List D → Prop) : Prop := ∀ M σ H (Q : List V → Hp → Prop), Ctx F M σ H δ →
  (∀ vs ds H', P ds → Ctx F M σ H' δ → StepB F.mv H H' → RepL F.K (hd M H') vs ds → Q vs H') → ta σ H Q
def Al (M : Addr → Bool) (H : Hp) : Prop := ∀ a, M a = true → ∃ o, H a = some o
/-- a two-place operation on data -/
def OpD (K : PySem.W.Frag) (r : R2) (x y : D) (P : D → Prop) : Prop := ∀ (M : Addr → Bool) (H : Hp) (v w : V) (Q : VK), Al M H → Rep K (hd M H) v x → Rep K (hd M H) w y →
  (∀ u d H', P d → Same H H' → Rep K (hd M H') u d → Q u H') → r v w H Q
def UnD (K : PySem.W.Frag) (r : V → Hp → VK → Prop) (x : D) (P : D → Prop) : Prop := ∀ (M : Addr → Bool) (H : Hp) (v : V) (Q : VK), Al M H → Rep K (hd M H) v x →
  (∀ u d H', P d → Same H H' → Rep K (hd M H') u d → Q u H') → r v H Q
/-- a call on data -/
def CallD (K : PySem.W.Frag) (r : List V → Hp → VK → Prop) (ds : List D) (P : D → Prop) : Prop := ∀ (M : Addr → Bool) (H : Hp) (vs : List V) (Q : VK), Al M H → RepL K (hd M H) vs ds →
  (∀ u d H', P d → Same H H' → Rep K (hd M H') u d → Q u H') → r vs H Q
theorem sz_of {n : Nat} (h : n ≤ 100000) : n ≤ sizeLine := Nat.le_trans h (by decide)
theorem sz_lt {n : Nat} (h : n < 100000) : n < sizeLine := Nat.lt_of_lt_of_le h (by decide)
theorem hd_new {M : Addr → Bool} {H : Hp} {p : Addr} {o : HO} (al : Al M H) (hp : H p = none) : hd M (upd H p o) p = some o := by
  refine hd_at ?_ upd_same
  cases e : M p with
  | true =>
    obtain ⟨u, h⟩ := al p e
    rw [hp] at h
    cases h
  | false => rfl
theorem same_hdM {M : Addr → Bool} {H H' : Hp} (e : Same H H') : Same (hd M H) (hd M H') := fun a o h => by
  obtain ⟨m, h1⟩ := hd_of h
  exact hd_at m (e a o h1)
section
variable {F : Fm} {δ : List SD} {ta tb tc te : TE} {tt tu : TT} {P P1 P2 P3 : D → Prop} {PT : Bool → Prop} {PA : List D → Prop}
theorem Ev.imp (h : Ev F te δ P) (i : ∀ d, P d → P1 d) : Ev F te δ P1 := fun M σ H Q c q => h M σ H Q c fun v d H' p => q v d H' (i d p)
theorem EvT.imp {PB PC : Bool → Prop} (h : EvT F tt δ PB) (i : ∀ d, PB d → PC d) : EvT F tt δ PC := fun M σ H Q c q => h M σ H Q c fun v H' p => q v H' (i v p)
theorem EvA.imp {ta : TA} {PB PC : List D → Prop} (h : EvA F ta δ PB) (i : ∀ d, PB d → PC d) : EvA F ta δ PC := fun M σ H Q c q => h M σ H Q c fun v d H' p => q v d H' (i d p)
theorem ev_var {i : Nat} {d : D} (h : δ[i]? = some (.dat d)) (p : P d) : Ev F (tVar i) δ P := fun M σ H Q c q => by
  obtain ⟨v, h1, h2⟩ := c.get h
  exact ⟨v, h1, q v d H p c (StepB.refl _ _) h2⟩
theorem ev_int {i : Int} (p : P (.int i)) : Ev F (tC (.int i)) δ P := fun M σ H Q c q => q _ _ H p c (StepB.refl _ _) (.int i)
theorem ev_bl {b : Bool} (p : P (.bl b)) : Ev F (tC (.bl b)) δ P := fun M σ H Q c q => q _ _ H p c (StepB.refl _ _) (.bl b)
theorem ev_str {x : Str} (p : P (.str x)) : Ev F (tC (.str x)) δ P := fun M σ H Q c q => q _ _ H p c (StepB.refl _ _) (.str x)
theorem ev_ty {n : String} (p : P (.ty n)) : Ev F (tC (.ty n)) δ P := fun M σ H Q c q => q _ _ H p c (StepB.refl _ _) (.ty n)
theorem ev_adr {a : Addr} (p : P (.adr a)) : Ev F (tC (.ref a)) δ P := fun M σ H Q c q => q _ _ H p c (StepB.refl _ _) (.adr a)
theorem ev_non (p : P .non) : Ev F (tC .non) δ P := fun M σ H Q c q => q _ _ H p c (StepB.refl _ _) .non
theorem ev_op {r : R2} (h : Ev F ta δ fun x => Ev F tb δ fun y => OpD F.K r x y P) : Ev F (tOp r ta tb) δ P := fun M σ H Q c q =>
  h M σ H _ c fun v x H1 p1 c1 e1 r1 => p1 M σ H1 _ c1 fun w y H2 p2 c2 e2 r2 =>
    p2 M H2 v w Q c2.al (r1.mono (hd_step c1 e2)) r2 fun u d H3 p e r3 => q u d H3 p (c2.same e) ((e1.trans e2).trans (StepB.of e)) r3
theorem ev_un {r : V → Hp → VK → Prop} (h : Ev F ta δ fun x => UnD F.K r x P) : Ev F (tUn r ta) δ P := fun M σ H Q c q =>
  h M σ H _ c fun v x H1 p1 c1 e1 r1 => p1 M H1 v Q c1.al r1 fun u d H3 p e r3 => q u d H3 p (c1.same e) (e1.trans (StepB.of e)) r3
/-- and, or, not of bools, as values -/
theorem ev_and (h : Ev F ta δ fun d => ∃ b, d = .bl b ∧ (b = true → Ev F tb δ P) ∧ (b = false → P (.bl false))) : Ev F (tAndV ta tb) δ P := fun M σ H Q c q =>
  h M σ H _ c fun v x H1 p1 c1 e1 r1 => by
    obtain ⟨b, rfl, h1, h2⟩ := p1
    cases r1
    refine ⟨b, rfl, ?_⟩
    cases b with
    | true => exact h1 rfl M σ H1 Q c1 fun u d H2 p c2 e2 r2 => q u d H2 p c2 (e1.trans e2) r2
    | false => exact q _ _ H1 (h2 rfl) c1 e1 (.bl false)
theorem ev_or (h : Ev F ta δ fun d => ∃ b, d = .bl b ∧ (b = false → Ev F tb δ P) ∧ (b = true → P (.bl true))) : Ev F (tOrV ta tb) δ P := fun M σ H Q c q =>
  h M σ H _ c fun v x H1 p1 c1 e1 r1 => by
    obtain ⟨b, rfl, h1, h2⟩ := p1
    cases r1
    refine ⟨b, rfl, ?_⟩
    cases b with
    | false => exact h1 rfl M σ H1 Q c1 fun u d H2 p c2 e2 r2 => q u d H2 p c2 (e1.trans e2) r2
    | true => exact q _ _ H1 (h2 rfl) c1 e1 (.bl true)
theorem ev_not (h : Ev F ta δ fun d => ∃ b, d = .bl b ∧ P (.bl (!b))) : Ev F (tNotV ta) δ P := fun M σ H Q c q =>
  h M σ H _ c fun v x H1 p1 c1 e1 r1 => by
    obtain ⟨b, rfl, pb⟩ := p1
    cases r1
    exact ⟨b, rfl, q _ _ H1 pb c1 e1 (.bl _)⟩
theorem ev_if (h : EvT F tt δ fun b => (b = true → Ev F ta δ P) ∧ (b = false → Ev F tb δ P)) : Ev F (tIf tt ta tb) δ P := fun M σ H Q c q =>
  h M σ H _ c fun b H1 pb c1 e1 => by
    cases b with
    | true => exact pb.1 rfl M σ H1 Q c1 fun u d H2 p c2 e2 r2 => q u d H2 p c2 (e1.trans e2) r2
    | false => exact pb.2 rfl M σ H1 Q c1 fun u d H2 p c2 e2 r2 => q u d H2 p c2 (e1.trans e2) r2
/-- a op1 b op2 c -/
theorem ev_chain {r r' : R2} (h : Ev F ta δ fun x => Ev F tb δ fun y => OpD F.K r x y fun z => ∃ b, z = .bl b ∧ (b = true → Ev F tc δ fun w => OpD F.K r' y w P) ∧ (b = false → P (.bl false))) : Ev F (tChain r r' ta tb tc) δ P := fun M σ H Q c q =>
  by
  refine h M σ H _ c fun v x H1 p1 c1 e1 r1 => ?_
  refine p1 M σ H1 _ c1 fun w y H2 p2 c2 e2 r2 => ?_
  refine p2 M H2 v w _ c2.al (r1.mono (hd_step c1 e2)) r2 fun u d H3 p e r3 => ?_
  obtain ⟨b, rfl, h1, h2⟩ := p
  cases r3
  refine ⟨b, rfl, ?_⟩
  cases b with
  | false => exact q _ _ H3 (h2 rfl) (c2.same e) ((e1.trans e2).trans (StepB.of e)) (.bl false)
  | true =>
    rw [if_pos rfl]
    refine h1 rfl M σ H3 _ (c2.same e) fun u4 d4 H4 p4 c4 e4 r4 => ?_
    refine p4 M H4 w u4 Q c4.al (r2.mono ((same_hdM e).trans (hd_step (c2.same e) e4))) r4 fun u5 d5 H5 p5 e5 r5 => ?_
    exact q u5 d5 H5 p5 (c4.same e5) (((e1.trans e2).trans (StepB.of e)).trans (e4.trans (StepB.of e5))) r5
/-! tests -/
theorem et_test (h : Ev F te δ fun d => ∃ b, d = .bl b ∧ PT b) : EvT F (tTest te) δ PT := fun M σ H Q c q =>
  h M σ H _ c fun v x H1 p1 c1 e1 r1 => by
    obtain ⟨b, rfl, pb⟩ := p1
    cases r1
    exact ⟨b, rfl, q b H1 pb c1 e1⟩
theorem et_B (h : Ev F te δ fun d => ∃ b, d = .bl b ∧ PT b) : EvT F (tB te) δ PT := fun M σ H Q c q =>
  h M σ H _ c fun v x H1 p1 c1 e1 r1 => by
    obtain ⟨b, rfl, pb⟩ := p1
    cases r1
    exact ⟨b, rfl, q b H1 pb c1 e1⟩
theorem et_and (h : EvT F tt δ fun b => (b = true → EvT F tu δ PT) ∧ (b = false → PT false)) : EvT F (tAnd tt tu) δ PT := fun M σ H Q c q =>
  h M σ H _ c fun b H1 pb c1 e1 => by
    cases b with
    | true => exact pb.1 rfl M σ H1 Q c1 fun b2 H2 p c2 e2 => q b2 H2 p c2 (e1.trans e2)
    | false => exact q false H1 (pb.2 rfl) c1 e1
theorem et_or (h : EvT F tt δ fun b => (b = false → EvT F tu δ PT) ∧ (b = true → PT true)) : EvT F (tOr tt tu) δ PT := fun M σ H Q c q =>
  h M σ H _ c fun b H1 pb c1 e1 => by
    cases b with
    | false => exact pb.1 rfl M σ H1 Q c1 fun b2 H2 p c2 e2 => q b2 H2 p c2 (e1.trans e2)
    | true => exact q true H1 (pb.2 rfl) c1 e1
theorem et_not (h : EvT F tt δ fun b => PT (!b)) : EvT F (tNot tt) δ PT := fun M σ H Q c q =>
  h M σ H _ c fun b H1 pb c1 e1 => q (!b) H1 pb c1 e1
theorem et_yes (p : PT true) : EvT F tYes δ PT := fun M σ H Q c q => q true H p c (StepB.refl _ _)
/-! lists of values -/
theorem ea_nil (p : PA []) : EvA F tNil δ PA := fun M σ H Q c q => q [] [] H p c (StepB.refl _ _) .nil
theorem ea_cons {tr : TA} (h : Ev F te δ fun x => EvA F tr δ fun r => PA (x :: r)) : EvA F (tCons te tr) δ PA := fun M σ H Q c q =>
  h M σ H _ c fun v x H1 p1 c1 e1 r1 => p1 M σ H1 _ c1 fun vs ds H2 p2 c2 e2 r2 => q _ (x :: ds) H2 p2 c2 (e1.trans e2) (.cons (r1.mono (hd_step c1 e2)) r2)
theorem ev_tup {ta : TA} (h : EvA F ta δ fun ds => ds.length ≤ 100000 ∧ P (.tup ds)) : Ev F (tTup ta) δ P := fun M σ H Q c q =>
  h M σ H _ c fun vs ds H1 p1 c1 e1 r1 => ⟨by rw [r1.length]; exact sz_of p1.1, fun p hp =>
    q _ (.tup ds) _ p1.2 (c1.same (same_new hp)) (e1.trans (StepB.of (same_new hp))) (.tup (SqT.of (hd_new c1.al hp)) (r1.mono (same_hdM (same_new hp))))⟩
theorem ev_lst {ta : TA} (h : EvA F ta δ fun ds => ds.length ≤ 100000 ∧ P (.lst ds)) : Ev F (tLst ta) δ P := fun M σ H Q c q =>
  h M σ H _ c fun vs ds H1 p1 c1 e1 r1 => ⟨by rw [r1.length]; exact sz_of p1.1, fun p hp =>
    q _ (.lst ds) _ p1.2 (c1.same (same_new hp)) (e1.trans (StepB.of (same_new hp))) (.lst (hd_new c1.al hp) (r1.mono (same_hdM (same_new hp))))⟩
theorem ev_cb {r : List V → Hp → VK → Prop} {ta : TA} (h : EvA F ta δ fun ds => CallD F.K r ds P) : Ev F (tCB r ta) δ P := fun M σ H Q c q =>
  h M σ H _ c fun vs ds H1 p1 c1 e1 r1 => p1 M H1 vs Q c1.al r1 fun u d H2 p e r2 => q u d H2 p (c1.same e) (e1.trans (StepB.of e)) r2
end
/-! ### operations on data -/
section
variable {K : PySem.W.Frag} {P : D → Prop} {i j : Int}
theorem od_I0 {g : Int → Int → V} {d : D} (hr : ∀ H, Rep K H (g i j) d) (p : P d) : OpD K (rI0 g) (.int i) (.int j) P := fun M H v w Q al r1 r2 q => by
  cases r1
  cases r2
  exact ⟨i, j, rfl, rfl, q _ d H p (Same.refl H) (hr _)⟩
theorem od_I {C : Int → Int → Prop} {g : Int → Int → V} {d : D} (hc : C i j) (hr : ∀ H, Rep K H (g i j) d) (p : P d) : OpD K (rI C g) (.int i) (.int j) P := fun M H v w Q al r1 r2 q => by
  cases r1
  cases r2
  exact ⟨i, j, rfl, rfl, hc, q _ d H p (Same.refl H) (hr _)⟩
theorem od_int {g : Int → Int → Int} (p : P (.int (g i j))) : OpD K (rI0 fun i j => .int (g i j)) (.int i) (.int j) P := od_I0 (fun _ => .int _) p
theorem od_bl {g : Int → Int → Bool} (p : P (.bl (g i j))) : OpD K (rI0 fun i j => .bl (g i j)) (.int i) (.int j) P := od_I0 (fun _ => .bl _) p
theorem od_intC {C : Int → Int → Prop} {g : Int → Int → Int} (hc : C i j) (p : P (.int (g i j))) : OpD K (rI C fun i j => .int (g i j)) (.int i) (.int j) P := od_I hc (fun _ => .int _) p
end
end Pf

namespace Pf
open PySem L2 RZ

/-! ### statements on data -/
structure PD where
  nx : List SD → Prop
  rt : D → Prop := fun _ => False
  bk : List SD → Prop := fun _ => False
  ct : List SD → Prop := fun _ => False
def Do (F : Fm) (ts : TS) (δ : List SD) (P : PD) : Prop := ∀ M σ H (E : Ends), Ctx F M σ H δ →
  (∀ M' σ' H' δ', P.nx δ' → Ctx F M' σ' H' δ' → Same (hd M H) (hd M' H') → E.nx σ' H') →
  (∀ v d M' σ' H' δ', P.rt d → Ctx F M' σ' H' δ' → Same (hd M H) (hd M' H') → Rep F.K (hd M' H') v d → E.rt v H') →
  (∀ M' σ' H' δ', P.bk δ' → Ctx F M' σ' H' δ' → Same (hd M H) (hd M' H') → E.bk σ' H') →
  (∀ M' σ' H' δ', P.ct δ' → Ctx F M' σ' H' δ' → Same (hd M H) (hd M' H') → E.ct σ' H') → ts E σ H
/-- a target -/
def TgD (F : Fm) (g : TG) (js : List Nat) (x : D) (δ : List SD) (R : List SD → Prop) : Prop := ∀ M σ H v (Q : L2.St → Hp → Prop), Ctx F M σ H δ → Rep F.K (hd M H) v x →
  (∀ σ' H' δ', R δ' → Ctx F M σ' H' δ' → StepB F.mv H H' → (∀ vs : List Nat, (∀ j ∈ js, j ∈ vs) → wipe σ' vs = wipe σ vs) → Q σ' H') → g v σ H Q
def TgsD (F : Fm) (g : TGs) (js : List Nat) (x : List D) (δ : List SD) (R : List SD → Prop) : Prop := ∀ M σ H v (Q : L2.St → Hp → Prop), Ctx F M σ H δ → RepL F.K (hd M H) v x →
  (∀ σ' H' δ', R δ' → Ctx F M σ' H' δ' → StepB F.mv H H' → (∀ vs : List Nat, (∀ j ∈ js, j ∈ vs) → wipe σ' vs = wipe σ vs) → Q σ' H') → g v σ H Q
/-- what is walked -/
def WalkD (F : Fm) (J : It) (M : Addr → Bool) (H : Hp) (xs : List D) : Prop := ∃ (G : Hp → Prop) (Y : Nat → Hp → V → Hp → Prop), Walk J xs.length G Y ∧
  (∀ M2 H2, Same (hd M H) (hd M2 H2) → StepB F.mv F.H0 H2 → G H2) ∧ ∀ M2 H2 i x H3, Al M2 H2 → Same (hd M H) (hd M2 H2) → Y i H2 x H3 → Same H2 H3 ∧ ∃ d, xs[i]? = some d ∧ Rep F.K (hd M2 H3) x d
def ItD (F : Fm) (wi : TI) (δ : List SD) (PX : List D → Prop) : Prop := ∀ M σ H (R : It → Hp → Prop), Ctx F M σ H δ →
  (∀ J xs H', PX xs → Ctx F M σ H' δ → StepB F.mv H H' → WalkD F J M H' xs → R J H') → wi σ H R
section
variable {F : Fm} {δ : List SD} {ta tb tc te : TE} {t u ts : TS} {tt tu : TT} {P : D → Prop} {PX : List D → Prop} {R : PD} {M : Addr → Bool} {σ : L2.St} {H H' : Hp} {g : TG} {gs : TGs} {wi : TI}
theorem Do.imp {R' : PD} (h : Do F t δ R) (h1 : ∀ δ', R.nx δ' → R'.nx δ') (h2 : ∀ d, R.rt d → R'.rt d) (h3 : ∀ δ', R.bk δ' → R'.bk δ') (h4 : ∀ δ', R.ct δ' → R'.ct δ') : Do F t δ R' := fun M σ H E c a b k d =>
  h M σ H E c (fun M' σ' H' δ' p => a M' σ' H' δ' (h1 _ p)) (fun v d M' σ' H' δ' p => b v d M' σ' H' δ' (h2 _ p)) (fun M' σ' H' δ' p => k M' σ' H' δ' (h3 _ p)) (fun M' σ' H' δ' p => d M' σ' H' δ' (h4 _ p))
theorem do_seq (h : Do F t δ { R with nx := fun δ' => Do F u δ' R }) : Do F (tSeq t u) δ R := fun M σ H E c a b k d =>
  h M σ H { E with nx := u E } c (fun M' σ' H' δ' p c' s => p M' σ' H' E c' (fun M2 σ2 H2 δ2 p2 c2 s2 => a M2 σ2 H2 δ2 p2 c2 (s.trans s2)) (fun v x M2 σ2 H2 δ2 p2 c2 s2 => b v x M2 σ2 H2 δ2 p2 c2 (s.trans s2))
    (fun M2 σ2 H2 δ2 p2 c2 s2 => k M2 σ2 H2 δ2 p2 c2 (s.trans s2)) (fun M2 σ2 H2 δ2 p2 c2 s2 => d M2 σ2 H2 δ2 p2 c2 (s.trans s2))) b k d
theorem do_next (p : R.nx δ) : Do F tNext δ R := fun M σ H E c a b k d => a M σ H δ p c (Same.refl _)
theorem do_brk (p : R.bk δ) : Do F tBreak δ R := fun M σ H E c a b k d => k M σ H δ p c (Same.refl _)
theorem do_cont (p : R.ct δ) : Do F tCont δ R := fun M σ H E c a b k d => d M σ H δ p c (Same.refl _)
theorem do_ret (h : Ev F te δ R.rt) : Do F (tRet te) δ R := fun M σ H E c a b k d =>
  h M σ H _ c fun v x H1 p c1 e r => b v x M σ H1 δ p c1 (hd_step c e) r
theorem do_retN (p : R.rt .non) : Do F tRetN δ R := fun M σ H E c a b k d => b _ _ M σ H δ p c (Same.refl _) .non
theorem do_drop (h : Ev F te δ fun _ => R.nx δ) : Do F (tDrop te) δ R := fun M σ H E c a b k d =>
  h M σ H _ c fun v x H1 p c1 e r => a M σ H1 δ p c1 (hd_step c e)
theorem do_set {i : Nat} (h : Ev F te δ fun x => R.nx (δ.set i (.dat x))) : Do F (tAsg te (gName i)) δ R := fun M σ H E c a b k d =>
  h M σ H _ c fun v x H1 p c1 e r => a M _ H1 _ p (c1.set i r) (hd_step c e)
theorem do_asg {js : List Nat} (h : Ev F te δ fun x => TgD F g js x δ R.nx) : Do F (tAsg te g) δ R := fun M σ H E c a b k d =>
  h M σ H _ c fun v x H1 p c1 e r => p M σ H1 v _ c1 r fun σ2 H2 δ2 p2 c2 e2 _ => a M σ2 H2 δ2 p2 c2 ((hd_step c e).trans (hd_step c1 e2))
theorem do_if (h : EvT F tt δ fun b => (b = true → Do F t δ R) ∧ (b = false → Do F u δ R)) : Do F (tIfS tt t u) δ R := fun M σ H E c a b k d =>
  h M σ H _ c fun y H1 p c1 e => by
    have s := hd_step c e
    cases y with
    | true =>
      exact p.1 rfl M σ H1 E c1 (fun M2 σ2 H2 δ2 p2 c2 s2 => a M2 σ2 H2 δ2 p2 c2 (s.trans s2)) (fun v x M2 σ2 H2 δ2 p2 c2 s2 => b v x M2 σ2 H2 δ2 p2 c2 (s.trans s2))
        (fun M2 σ2 H2 δ2 p2 c2 s2 => k M2 σ2 H2 δ2 p2 c2 (s.trans s2)) (fun M2 σ2 H2 δ2 p2 c2 s2 => d M2 σ2 H2 δ2 p2 c2 (s.trans s2))
    | false =>
      exact p.2 rfl M σ H1 E c1 (fun M2 σ2 H2 δ2 p2 c2 s2 => a M2 σ2 H2 δ2 p2 c2 (s.trans s2)) (fun v x M2 σ2 H2 δ2 p2 c2 s2 => b v x M2 σ2 H2 δ2 p2 c2 (s.trans s2))
        (fun M2 σ2 H2 δ2 p2 c2 s2 => k M2 σ2 H2 δ2 p2 c2 (s.trans s2)) (fun M2 σ2 H2 δ2 p2 c2 s2 => d M2 σ2 H2 δ2 p2 c2 (s.trans s2))
/-! targets -/
theorem wipe_set {j : Nat} {s : Option V} : ∀ {vs : List Nat}, j ∈ vs → wipe (σ.set j s) vs = wipe σ vs
  | [], h => by cases h
  | v :: vs, h => by
    show (wipe (σ.set j s) vs).set v none = (wipe σ vs).set v none
    by_cases hv : j = v
    · subst hv
      have key : ∀ ws : List Nat, (wipe (σ.set j s) ws).set j none = (wipe σ ws).set j none := by
        intro ws
        induction ws with
        | nil =>
          show (σ.set j s).set j none = σ.set j none
          rw [List.set_set]
        | cons w ws ih =>
          show ((wipe (σ.set j s) ws).set w none).set j none = ((wipe σ ws).set w none).set j none
          by_cases hw : w = j
          · subst hw
            rw [List.set_set, List.set_set, ih]
          · rw [List.set_comm _ _ hw, List.set_comm _ _ hw, ih]
      exact key vs
    · have : j ∈ vs := by
        rcases List.mem_cons.mp h with h | h
        · exact absurd h hv
        · exact h
      rw [wipe_set this]
theorem tg_name {i : Nat} {x : D} {Q : List SD → Prop} (p : Q (δ.set i (.dat x))) : TgD F (gName i) [i] x δ Q := fun M σ H v R c r q =>
  q _ H _ p (c.set i r) (StepB.refl _ _) fun vs h => wipe_set (h i (by simp))
theorem tgs_nil {Q : List SD → Prop} (p : Q δ) : TgsD F gNil [] [] δ Q := fun M σ H v R c r q => by
  cases r
  exact ⟨rfl, q σ H δ p c (StepB.refl _ _) fun vs _ => rfl⟩
theorem tgs_cons {js ks : List Nat} {x : D} {xs : List D} {Q : List SD → Prop} (h : TgD F g js x δ fun δ' => TgsD F gs ks xs δ' Q) : TgsD F (gCons g gs) (js ++ ks) (x :: xs) δ Q := fun M σ H v R c r q => by
  cases r with
  | cons r1 r2 =>
    refine ⟨_, _, rfl, h M σ H _ _ c r1 fun σ1 H1 δ1 p1 c1 e1 w1 => ?_⟩
    refine p1 M σ1 H1 _ _ c1 (r2.mono (hd_step c e1)) fun σ2 H2 δ2 p2 c2 e2 w2 => ?_
    refine q σ2 H2 δ2 p2 c2 (e1.trans e2) fun vs h => ?_
    rw [w2 vs fun j hj => h j (List.mem_append_right _ hj), w1 vs fun j hj => h j (List.mem_append_left _ hj)]
theorem tg_tup {n : Nat} {js : List Nat} {xs : List D} {Q : List SD → Prop} (hn : xs.length = n) (h : TgsD F gs js xs δ Q) : TgD F (gTup F.K n gs) js (.tup xs) δ Q := fun M σ H v R c r q => by
  cases r with
  | tup h1 h2 => exact ⟨_, _, rfl, same_tup (same_hd M H) h1, by rw [h2.length, hn], h M σ H _ _ c h2 q⟩
/-! walks -/
theorem walkD_list {F : Fm} {a : Addr} {xs : List V} {ds : List D} (h : hd M H a = some (.lst xs)) (r : RepL F.K (hd M H) xs ds) : WalkD F (Itl F.K a) M H ds := by
  refine ⟨fun H => SqL F.K H a xs, YAt xs, by rw [← r.length]; exact walk_list, fun M2 H2 e _ => SqL.of (hd_of (e _ _ h)).2, fun M2 H2 i x H3 al e y => ?_⟩
  obtain ⟨rfl, y⟩ := y
  obtain ⟨d, h1, h2⟩ := r.getV y
  exact ⟨Same.refl _, d, h1, h2.mono e⟩
theorem it_list (h : Ev F te δ fun d => ∃ ds, d = .lst ds ∧ PX ds) : ItD F (iList F.K te) δ PX := fun M σ H R c q =>
  h M σ H _ c fun v d H1 p c1 e r => by
    obtain ⟨ds, rfl, p⟩ := p
    cases r with
    | lst h1 h2 => exact ⟨_, rfl, ⟨_, SqL.of (hd_of h1).2⟩, q _ ds H1 p c1 e (walkD_list h1 h2)⟩
theorem walkD_tup {F : Fm} {a : Addr} {xs : List V} {ds : List D} (h : SqT F.K (hd M H) a xs) (r : RepL F.K (hd M H) xs ds) : WalkD F (Itt F.K a) M H ds := by
  refine ⟨fun H => SqT F.K H a xs, YAt xs, by rw [← r.length]; exact walk_tup, fun M2 H2 e _ => same_tup (e.trans (same_hd M2 H2)) h, fun M2 H2 i x H3 al e y => ?_⟩
  obtain ⟨rfl, y⟩ := y
  obtain ⟨d, h1, h2⟩ := r.getV y
  exact ⟨Same.refl _, d, h1, h2.mono e⟩
theorem it_tup (h : Ev F te δ fun d => ∃ ds, d = .tup ds ∧ PX ds) : ItD F (iTup F.K te) δ PX := fun M σ H R c q =>
  h M σ H _ c fun v d H1 p c1 e r => by
    obtain ⟨ds, rfl, p⟩ := p
    cases r with
    | tup h1 h2 => exact ⟨_, rfl, ⟨_, same_tup (same_hd M H1) h1⟩, q _ ds H1 p c1 e (walkD_tup h1 h2)⟩
/-- lo, lo + 1, .. -/
def upto (lo : Int) (n : Nat) : List D := (List.range n).map fun i => .int (lo + (i : Nat))
theorem upto_len {lo : Int} {n : Nat} : (upto lo n).length = n := by simp [upto]
theorem upto_get {lo : Int} {n i : Nat} {d : D} (h : (upto lo n)[i]? = some d) : i < n ∧ d = .int (lo + (i : Nat)) := by
  have hi := (List.getElem?_eq_some_iff.mp h).1
  rw [upto_len] at hi
  refine ⟨hi, ?_⟩
  unfold upto at h
  rw [List.getElem?_map, List.getElem?_range hi] at h
  exact (Option.some.inj h).symm
theorem walkD_range {F : Fm} {lo : Int} {n : Nat} : WalkD F (Itr lo n) M H (upto lo n) := by
  refine ⟨fun _ => True, fun i H x H' => i < n ∧ H' = H ∧ x = .int (lo + i), ?_, fun _ _ _ _ => trivial, fun M2 H2 i x H3 al e y => ?_⟩
  · rw [upto_len]
    exact ⟨fun _ _ hi _ => hi, fun _ _ => Nat.le_refl _, fun _ _ _ _ hi _ y => ⟨hi, y⟩⟩
  · obtain ⟨hi, rfl, rfl⟩ := y
    refine ⟨Same.refl _, .int (lo + (i : Nat)), ?_, .int _⟩
    unfold upto
    rw [List.getElem?_map, List.getElem?_range hi]
    rfl
theorem it_range1 {ta : TA} (h : EvA F ta δ fun l => ∃ n : Int, l = [.int n] ∧ -1000000 ≤ n ∧ n ≤ 1000000 ∧ PX (upto 0 n.toNat)) : ItD F (iRng1 ta) δ PX := fun M σ H R c q =>
  h M σ H _ c fun vs ds H1 p c1 e r => by
    obtain ⟨n, rfl, h1, h2, p⟩ := p
    cases r with
    | cons r1 r2 =>
      cases r1
      cases r2
      exact ⟨n, rfl, by omega, by omega, q _ _ H1 p c1 e walkD_range⟩
theorem it_range2 {ta : TA} (h : EvA F ta δ fun l => ∃ m n : Int, l = [.int m, .int n] ∧ (-1000000 ≤ m ∧ m ≤ 1000000 ∧ -1000000 ≤ n ∧ n ≤ 1000000) ∧ PX (upto m (n - m).toNat)) : ItD F (iRng2 ta) δ PX := fun M σ H R c q =>
  h M σ H _ c fun vs ds H1 p c1 e r => by
    obtain ⟨m, n, rfl, h1, p⟩ := p
    cases r with
    | cons r1 r2 =>
      cases r1
      cases r2 with
      | cons r2 r3 =>
        cases r2
        cases r3
        exact ⟨m, n, rfl, by omega, q _ _ H1 p c1 e walkD_range⟩
/-- the signs of a text -/
def signs (z : Str) : List D := z.cps.toList.map fun c => .str ⟨#[c]⟩
theorem it_str (h : Ev F te δ fun d => ∃ z, d = .str z ∧ PX (signs z)) : ItD F (iStr te) δ PX := fun M σ H R c q =>
  h M σ H _ c fun v d H1 p c1 e r => by
    obtain ⟨z, rfl, p⟩ := p
    cases r
    refine ⟨z, rfl, q _ _ H1 p c1 e ⟨fun _ => True, fun i H v H' => H' = H ∧ ∃ c, z.cps[i]? = some c ∧ v = .str ⟨#[c]⟩, ?_, fun _ _ _ _ => trivial, fun M2 H2 i x H3 al e y => ?_⟩⟩
    · have := walk_str (z := z)
      have l : (signs z).length = z.cps.size := by simp [signs]
      rw [l]
      exact this
    · obtain ⟨rfl, c, h1, rfl⟩ := y
      refine ⟨Same.refl _, .str ⟨#[c]⟩, ?_, .str _⟩
      unfold signs
      rw [List.getElem?_map]
      have : z.cps.toList[i]? = some c := by simpa using h1
      rw [this]
      rfl
/-- pairs -/
def pairs (xs ys : List D) : List D := (xs.zip ys).map fun p => .tup [p.1, p.2]
theorem pair_ok {K : PySem.W.Frag} {M2 : Addr → Bool} {H2 : Hp} {T : Addr} {x y : V} {d e : D} (al : Al M2 H2) (hT : H2 T = none) (r1 : Rep K (hd M2 H2) x d) (r2 : Rep K (hd M2 H2) y e) : Rep K (hd M2 (upd H2 T (.tup [x, y]))) (.ref T) (.tup [d, e]) :=
  .tup (SqT.of (hd_new al hT)) (.cons (r1.mono (same_hdM (same_new hT))) (.cons (r2.mono (same_hdM (same_new hT))) .nil))
theorem walkD_zip {F : Fm} {a b : Addr} {xs ys : List V} {ds es : List D} (h : hd M H a = some (.lst xs)) (r : RepL F.K (hd M H) xs ds) (h' : hd M H b = some (.lst ys)) (r' : RepL F.K (hd M H) ys es) : WalkD F (Itz F.K a b) M H (pairs ds es) := by
  refine ⟨_, _, walk_zip (xs := xs) (ys := ys) ?_, fun M2 H2 e _ => ⟨SqL.of (hd_of (e _ _ h)).2, SqL.of (hd_of (e _ _ h')).2⟩, fun M2 H2 i x H3 al e y => ?_⟩
  · unfold pairs
    rw [List.length_map, List.length_zip, r.length, r'.length]
  · obtain ⟨T, v, w, rfl, hT, rfl, h1, h2⟩ := y
    obtain ⟨d, e1, r1⟩ := r.getV h1
    obtain ⟨f, e2, r2⟩ := r'.getV h2
    refine ⟨same_new hT, .tup [d, f], ?_, pair_ok al hT (r1.mono e) (r2.mono e)⟩
    unfold pairs
    rw [List.getElem?_map, List.getElem?_zip_eq_some (z := (d, f)) |>.mpr ⟨e1, e2⟩]
    rfl
theorem it_zipL {ta : TA} (h : EvA F ta δ fun l => ∃ xs ys, l = [.lst xs, .lst ys] ∧ PX (pairs xs ys)) : ItD F (iZip F.K ta) δ PX := fun M σ H R c q =>
  h M σ H _ c fun vs ds H1 p c1 e r => by
    obtain ⟨xs, ys, rfl, p⟩ := p
    cases r with
    | cons r1 r2 =>
      cases r2 with
      | cons r2 r3 =>
        cases r3
        cases r1 with
        | lst h1 h2 =>
          cases r2 with
          | lst h3 h4 => exact ⟨_, _, _, _, rfl, SqL.of (hd_of h1).2, SqL.of (hd_of h3).2, q _ _ H1 p c1 e (walkD_zip h1 h2 h3 h4)⟩
theorem walk_zipT {K : PySem.W.Frag} {a b : Addr} {xs ys : List V} {n : Nat} (hn : n = min xs.length ys.length) : Walk (ItzT K a b) n (fun H => SqT K H a xs ∧ SqT K H b ys) (YPair (fun i => xs[i]?) (fun i => ys[i]?)) := by
  subst hn
  refine ⟨fun i _ hi q => ?_, fun _ q => ⟨xs, ys, q.1, q.2, by omega⟩, fun i H v H' _ q y => ?_⟩
  · have h1 : i < xs.length := by omega
    have h2 : i < ys.length := by omega
    exact ⟨xs, ys, xs[i], ys[i], q.1, q.2, by simp [h1], by simp [h2]⟩
  · obtain ⟨T, x, z, h1, h2, h3, h4, h5⟩ := y
    exact ⟨T, x, z, h1, h2, h3, h4 xs q.1, h5 ys q.2⟩
theorem walkD_zipT {F : Fm} {a b : Addr} {xs ys : List V} {ds es : List D} (h : SqT F.K (hd M H) a xs) (r : RepL F.K (hd M H) xs ds) (h' : SqT F.K (hd M H) b ys) (r' : RepL F.K (hd M H) ys es) : WalkD F (ItzT F.K a b) M H (pairs ds es) := by
  refine ⟨_, _, walk_zipT (xs := xs) (ys := ys) ?_, fun M2 H2 e _ => ⟨same_tup (e.trans (same_hd M2 H2)) h, same_tup (e.trans (same_hd M2 H2)) h'⟩, fun M2 H2 i x H3 al e y => ?_⟩
  · unfold pairs
    rw [List.length_map, List.length_zip, r.length, r'.length]
  · obtain ⟨T, v, w, rfl, hT, rfl, h1, h2⟩ := y
    obtain ⟨d, e1, r1⟩ := r.getV h1
    obtain ⟨f, e2, r2⟩ := r'.getV h2
    refine ⟨same_new hT, .tup [d, f], ?_, pair_ok al hT (r1.mono e) (r2.mono e)⟩
    unfold pairs
    rw [List.getElem?_map, List.getElem?_zip_eq_some (z := (d, f)) |>.mpr ⟨e1, e2⟩]
    rfl
/-- of two lists, of two tuples -/
theorem it_zipA {ta : TA} (h : EvA F ta δ fun l => ∃ xs ys, (l = [.lst xs, .lst ys] ∨ l = [.tup xs, .tup ys]) ∧ PX (pairs xs ys)) : ItD F (iZipA F.K ta) δ PX := fun M σ H R c q =>
  h M σ H _ c fun vs ds H1 p c1 e r => by
    obtain ⟨xs, ys, hl, p⟩ := p
    rcases hl with rfl | rfl
    · cases r with
      | cons r1 r2 =>
        cases r2 with
        | cons r2 r3 =>
          cases r3
          cases r1 with
          | lst h1 h2 =>
            cases r2 with
            | lst h3 h4 => exact ⟨_, _, _, _, rfl, .inl ⟨SqL.of (hd_of h1).2, SqL.of (hd_of h3).2, q _ _ H1 p c1 e (walkD_zip h1 h2 h3 h4)⟩⟩
    · cases r with
      | cons r1 r2 =>
        cases r2 with
        | cons r2 r3 =>
          cases r3
          cases r1 with
          | tup h1 h2 =>
            cases r2 with
            | tup h3 h4 => exact ⟨_, _, _, _, rfl, .inr ⟨same_tup (same_hd M H1) h1, same_tup (same_hd M H1) h3, q _ _ H1 p c1 e (walkD_zipT h1 h2 h3 h4)⟩⟩
/-- enumerate -/
def numbered (xs : List D) : List D := (List.range xs.length).map fun i => .tup [.int (i : Nat), xs.getD i .non]
theorem it_enum {ta : TA} (h : EvA F ta δ fun l => ∃ xs, l = [.lst xs] ∧ PX (numbered xs)) : ItD F (iEnum F.K ta) δ PX := fun M σ H R c q =>
  h M σ H _ c fun vs ds H1 p c1 e r => by
    obtain ⟨xs, rfl, p⟩ := p
    cases r with
    | cons r1 r2 =>
      cases r2
      cases r1 with
      | @lst a vs _ h1 h2 =>
        refine ⟨_, _, rfl, SqL.of (hd_of h1).2, q _ _ H1 p c1 e ⟨fun H => SqL F.K H a vs, YPair (fun i => some (.int (i : Nat))) (fun i => vs[i]?), ?_, fun M2 H2 e _ => (SqL.of (hd_of (e _ _ h1)).2 : SqL F.K H2 a vs), fun M2 H2 i x H3 al e y => ?_⟩⟩
        · have := walk_enum (K := F.K) (a := a) (xs := vs)
          have l : (numbered xs).length = vs.length := by unfold numbered; rw [List.length_map, List.length_range, h2.length]
          rw [l]
          exact this
        · obtain ⟨T, v, w, rfl, hT, rfl, e1, e2⟩ := y
          cases e1
          obtain ⟨f, e3, r2⟩ := h2.getV e2
          refine ⟨same_new hT, .tup [.int (i : Nat), f], ?_, pair_ok al hT (.int _) (r2.mono e)⟩
          have hi := (List.getElem?_eq_some_iff.mp e3).1
          unfold numbered
          rw [List.getElem?_map, List.getElem?_range hi]
          show some (D.tup [.int (i : Nat), xs.getD i .non]) = _
          rw [show xs.getD i .non = f by simp [List.getD, e3]]
/-! for -/
theorem do_for {js : List Nat} (hw : ItD F wi δ PX) (I : List D → Nat → List SD → Prop) (h0 : ∀ xs, PX xs → I xs 0 δ)
    (hs : ∀ xs i x δ', PX xs → xs[i]? = some x → I xs i δ' → TgD F g js x δ' fun δ2 => Do F t δ2 { nx := I xs (i + 1), ct := I xs (i + 1), bk := R.nx, rt := R.rt })
    (he : ∀ xs δ', PX xs → I xs xs.length δ' → R.nx δ') : Do F (tFor wi g t) δ R := fun M σ H E c a b k d => by
  refine hw M σ H _ c fun J xs H1 px c1 e1 wd => ?_
  obtain ⟨G, Y, w, wg, wy⟩ := wd
  have s1 := hd_step c e1
  refine for_it w (fun i σ' H' => ∃ M' δ', I xs i δ' ∧ Ctx F M' σ' H' δ' ∧ Same (hd M H1) (hd M' H')) ⟨M, δ, h0 xs px, c1, Same.refl _⟩ (fun i σ' H' _ ⟨M', δ', _, c', s⟩ => wg M' H' s c'.fr) ?_ ?_
  · rintro i x σ' H' H2 hi ⟨M', δ', hI, c', s⟩ y
    obtain ⟨s2, dx, h1, r⟩ := wy M' H' i x H2 c'.al s y
    have c2 := c'.same s2
    refine hs xs i dx δ' px h1 hI M' σ' H2 x _ c2 r fun σ3 H3 δ3 p3 c3 e3 _ => ?_
    have s3 : Same (hd M H1) (hd M' H3) := s.trans ((same_hdM s2).trans (hd_step c2 e3))
    refine p3 M' σ3 H3 _ c3 (fun M4 σ4 H4 δ4 p4 c4 s4 => ⟨M4, δ4, p4, c4, s3.trans s4⟩) (fun v y M4 σ4 H4 δ4 p4 c4 s4 r4 => b v y M4 σ4 H4 δ4 p4 c4 ((s1.trans s3).trans s4) r4)
      (fun M4 σ4 H4 δ4 p4 c4 s4 => a M4 σ4 H4 δ4 p4 c4 ((s1.trans s3).trans s4)) (fun M4 σ4 H4 δ4 p4 c4 s4 => ⟨M4, δ4, p4, c4, s3.trans s4⟩)
  · rintro σ' H' ⟨M', δ', hI, c', s⟩
    exact a M' σ' H' δ' (he xs δ' px hI) c' (s1.trans s)
end

/-! ### a list of one's own -/
def hid (M : Addr → Bool) (p : Addr) : Addr → Bool := fun a => if a = p then true else M a
theorem hid_same {M : Addr → Bool} {p : Addr} : hid M p p = true := if_pos rfl
theorem hid_ne {M : Addr → Bool} {p a : Addr} (h : a ≠ p) : hid M p a = M a := if_neg h
theorem hid_le {M : Addr → Bool} {p : Addr} : ∀ a, M a = true → hid M p a = true := fun a h => by
  unfold hid
  split
  · rfl
  · exact h
def shw (M : Addr → Bool) (p : Addr) : Addr → Bool := fun a => if a = p then false else M a
theorem shw_same {M : Addr → Bool} {p : Addr} : shw M p p = false := if_pos rfl
theorem shw_ne {M : Addr → Bool} {p a : Addr} (h : a ≠ p) : shw M p a = M a := if_neg h
theorem shw_le {M : Addr → Bool} {p : Addr} : ∀ a, shw M p a = true → M a = true := fun a h => by
  by_cases e : a = p
  · subst e
    rw [shw_same] at h
    cases h
  · rw [shw_ne e] at h
    exact h
theorem hd_upd {M : Addr → Bool} {H : Hp} {p : Addr} {o : HO} (h : M p = true) : hd M (upd H p o) = hd M H := by
  funext a
  unfold hd
  by_cases e : a = p
  · subst e
    rw [h, if_pos rfl, if_pos rfl]
  · rw [upd_ne e]
section
variable {F : Fm} {M : Addr → Bool} {σ : L2.St} {H H' : Hp} {δ : List SD}
theorem set_key {i j : Nat} {x y : SD} (hx : (δ.set i y)[j]? = some x) : (i = j ∧ x = y ∧ i < δ.length) ∨ (i ≠ j ∧ δ[j]? = some x) := by
  by_cases hj : i = j
  · subst hj
    rw [List.getElem?_set] at hx
    rw [if_pos rfl] at hx
    split at hx
    · exact .inl ⟨rfl, (Option.some.inj hx).symm, by assumption⟩
    · cases hx
  · rw [List.getElem?_set_ne hj] at hx
    exact .inr ⟨hj, hx⟩
/-- p, which no own slot is, is shown no more | shown again -/
theorem Ctx.hide (c : Ctx F M σ H δ) {p : Addr} (hp : H p = none) {o : HO} : Ctx F (hid M p) σ (upd H p o) δ := by
  have s : Same (hd M H) (hd (hid M p) (upd H p o)) := fun a u e => by
    obtain ⟨m, h⟩ := hd_of e
    have n : a ≠ p := ne_of_none h hp
    exact hd_at (by rw [hid_ne n]; exact m) (by rw [upd_ne n]; exact h)
  refine ⟨fun a m => ?_, c.al0, fun a m => hid_le a (c.m0 a m), fun a u n h => (same_new hp) a u (c.fr a u n h), ⟨fun b z => (c.bg.1 b z).imp id fun ⟨h1, h2⟩ => ⟨h1.mono (same_new hp), h2⟩, fun a h => (c.bg.2 a h).imp id fun ⟨ps, e⟩ => ⟨ps, same_new hp _ _ e⟩⟩, c.ln, fun i x hx => ?_, c.dj, c.oh⟩
  · by_cases e : a = p
    · subst e
      exact ⟨o, upd_same⟩
    · rw [hid_ne e] at m
      obtain ⟨u, h⟩ := c.al a m
      exact ⟨u, by rw [upd_ne e]; exact h⟩
  · obtain ⟨y, h1, h2⟩ := c.sl i x hx
    refine ⟨y, h1, ?_⟩
    cases x with
    | un => trivial
    | dat d =>
      obtain ⟨v, e, r⟩ := h2
      exact ⟨v, e, r.mono s⟩
    | own q ds =>
      obtain ⟨e, m, vs, h3, r⟩ := h2
      exact ⟨e, hid_le q m, vs, same_new hp _ _ h3, r.mono s⟩
    | bag => exact h2
    | sq ds =>
      obtain ⟨q, vs, g1, g2, g3, g4⟩ := h2
      exact ⟨q, vs, g1, g2, g3, g4.mono s⟩
    | sl ds =>
      obtain ⟨q, vs, g1, g2, g3, g4⟩ := h2
      exact ⟨q, vs, g1, g2, g3, g4.mono s⟩
theorem Ctx.show' (c : Ctx F (hid M p) σ H δ) (hp : M p = false) (h0 : F.H0 p = none) (no : ∀ (j : Nat) (es : OD), δ[j]? ≠ some (.own p es)) : Ctx F M σ H δ := by
  have n0 : ∀ a, F.M0 a = true → a ≠ p := fun a m e => by
    subst e
    obtain ⟨o, h⟩ := c.al0 _ m
    rw [h0] at h
    cases h
  refine ⟨fun a m => c.al a (hid_le a m), c.al0, fun a m => by rw [← hid_ne (M := M) (n0 a m)]; exact c.m0 a m, c.fr, c.bg, c.ln, fun i x hx => ?_, c.dj, c.oh⟩
  obtain ⟨y, h1, h2⟩ := c.sl i x hx
  refine ⟨y, h1, ?_⟩
  cases x with
  | un => trivial
  | dat d =>
    obtain ⟨v, e, r⟩ := h2
    exact ⟨v, e, r.mono (same_hd_le hid_le)⟩
  | own q ds =>
    obtain ⟨e, m, vs, h3, r⟩ := h2
    have n : q ≠ p := fun z => by
      subst z
      exact no i ds hx
    rw [hid_ne n] at m
    exact ⟨e, m, vs, h3, r.mono (same_hd_le hid_le)⟩
  | bag => exact h2
  | sq ds =>
    obtain ⟨q, vs, g1, g2, g3, g4⟩ := h2
    exact ⟨q, vs, g1, g2, g3, g4.mono (same_hd_le hid_le)⟩
  | sl ds =>
    obtain ⟨q, vs, g1, g2, g3, g4⟩ := h2
    exact ⟨q, vs, g1, g2, g3, g4.mono (same_hd_le hid_le)⟩
/-- a slot takes a list of its own -/
theorem Ctx.setOwn (c : Ctx F M σ H δ) (i : Nat) {p : Addr} {vs : HO} {ds : OD} (m : M p = true) (h : H p = some vs) (r : RepO F.K (hd M H) vs ds) (h0 : F.H0 p = none) (hb : ¬ F.mv p)
    (no : ∀ (j : Nat) (es : OD), i ≠ j → δ[j]? ≠ some (.own p es)) : Ctx F M (σ.set i (some (.ref p))) H (δ.set i (.own p ds)) := by
  refine ⟨c.al, c.al0, c.m0, c.fr, c.bg, by rw [List.length_set, List.length_set, c.ln], fun j x hx => ?_, fun j k q es fs h1 h2 => ?_, fun j q es h => ?_⟩
  · rcases set_key hx with ⟨rfl, rfl, hl⟩ | ⟨hj, hx⟩
    · exact ⟨_, by rw [List.getElem?_set_self (by rw [c.ln]; exact hl)], rfl, m, vs, h, r⟩
    · rw [List.getElem?_set_ne hj]
      exact c.sl j x hx
  · rcases set_key h1 with ⟨rfl, z, _⟩ | ⟨hj, h1⟩
    · cases z
      rcases set_key h2 with ⟨rfl, _, _⟩ | ⟨hk, h2⟩
      · rfl
      · exact absurd h2 (no k _ hk)
    · rcases set_key h2 with ⟨rfl, z, _⟩ | ⟨hk, h2⟩
      · cases z
        exact absurd h1 (no j _ hj)
      · exact c.dj j k q es fs h1 h2
  · rcases set_key h with ⟨rfl, z, _⟩ | ⟨hj, h⟩
    · cases z
      exact ⟨h0, hb⟩
    · exact c.oh j q es h
/-- a hidden list that no slot owns is changed -/
theorem Ctx.poke (c : Ctx F M σ H δ) {p : Addr} {xs ys : HO} (m : M p = true) (hp : H p = some xs) (h0 : F.H0 p = none) (hb : ¬ F.mv p) (no : ∀ (j : Nat) (es : OD), δ[j]? ≠ some (.own p es)) : Ctx F M σ (upd H p ys) δ := by
  have hm : hd M (upd H p ys) = hd M H := hd_upd m
  have bg : ∀ b, F.B = some b → F.M0 b = true ∧ BagAt (upd H p ys) b F.C0 ∧ ∃ o, F.H0 F.C0 = some o := fun b z => by
    obtain ⟨g0, g1, g2⟩ := c.bg.1 b z
    obtain ⟨ns, k, z1, z2, z3, q1, q2, q3, q4⟩ := g1
    have n1 : b ≠ p := fun e => hb (.inl (e ▸ z))
    have n2 : F.C0 ≠ p := fun e => by
      rw [← e] at h0
      obtain ⟨o, g3⟩ := g2
      rw [h0] at g3
      cases g3
    exact ⟨g0, ⟨ns, k, z1, z2, z3, by rw [upd_ne n1]; exact q1, q2, by rw [upd_ne n2]; exact q3, q4⟩, g2⟩
  refine ⟨fun a q => ?_, c.al0, c.m0, fun a o n h => ?_, ⟨bg, fun a h => (c.bg.2 a h).imp id fun ⟨ps, e⟩ => ⟨ps, by rw [upd_ne (fun z : a = p => hb (.inr (z ▸ h)))]; exact e⟩⟩, c.ln, fun j x hx => ?_, c.dj, c.oh⟩
  · by_cases e : a = p
    · subst e
      exact ⟨_, upd_same⟩
    · rw [upd_ne e]
      exact c.al a q
  · have n2 : a ≠ p := fun e => by
      subst e
      rw [h0] at h
      cases h
    rw [upd_ne n2]
    exact c.fr a o n h
  · obtain ⟨y, g1, g2⟩ := c.sl j x hx
    refine ⟨y, g1, ?_⟩
    cases x with
    | un => trivial
    | dat d =>
      obtain ⟨v, e, r⟩ := g2
      exact ⟨v, e, by rw [hm]; exact r⟩
    | own q fs =>
      obtain ⟨e, mq, us, g3, r⟩ := g2
      have n : q ≠ p := fun z => by
        subst z
        exact no j _ hx
      exact ⟨e, mq, us, by rw [upd_ne n]; exact g3, by rw [hm]; exact r⟩
    | bag => exact g2
    | sq ds =>
      obtain ⟨q, vs, k1, k2, k3, k4⟩ := g2
      exact ⟨q, vs, k1, k2, k3, by rw [hm]; exact k4⟩
    | sl ds =>
      obtain ⟨q, vs, k1, k2, k3, k4⟩ := g2
      exact ⟨q, vs, k1, k2, k3, by rw [hm]; exact k4⟩
/-- the own list is changed -/
theorem Ctx.put (c : Ctx F M σ H δ) {i : Nat} {p : Addr} {ds es : OD} {vs : HO} (hi : δ[i]? = some (.own p ds)) (r : RepO F.K (hd M H) vs es) : Ctx F M σ (upd H p vs) (δ.set i (.own p es)) := by
  obtain ⟨y, h1, hy, m, ws, h3, r0⟩ := c.sl i _ hi
  subst hy
  obtain ⟨h0, hb⟩ := c.oh i p ds hi
  have hm : hd M (upd H p vs) = hd M H := hd_upd m
  have bg : ∀ b, F.B = some b → F.M0 b = true ∧ BagAt (upd H p vs) b F.C0 ∧ ∃ o, F.H0 F.C0 = some o := fun b z => by
    obtain ⟨g0, g1, g2⟩ := c.bg.1 b z
    obtain ⟨ns, k, z1, z2, z3, q1, q2, q3, q4⟩ := g1
    have n1 : b ≠ p := fun e => hb (.inl (e ▸ z))
    have n2 : F.C0 ≠ p := fun e => by
      rw [← e] at h0
      obtain ⟨o, g3⟩ := g2
      rw [h0] at g3
      cases g3
    exact ⟨g0, ⟨ns, k, z1, z2, z3, by rw [upd_ne n1]; exact q1, q2, by rw [upd_ne n2]; exact q3, q4⟩, g2⟩
  refine ⟨fun a q => ?_, c.al0, c.m0, fun a o n h => ?_, ⟨bg, fun a h => (c.bg.2 a h).imp id fun ⟨ps, e⟩ => ⟨ps, by rw [upd_ne (fun z : a = p => hb (.inr (z ▸ h)))]; exact e⟩⟩, by rw [List.length_set, c.ln], fun j x hx => ?_, fun j k q e1 e2 h1 h2 => ?_, fun j q e1 h => ?_⟩
  · by_cases e : a = p
    · subst e
      exact ⟨_, upd_same⟩
    · rw [upd_ne e]
      exact c.al a q
  · have n2 : a ≠ p := fun e => by
      subst e
      rw [h0] at h
      cases h
    rw [upd_ne n2]
    exact c.fr a o n h
  · rcases set_key hx with ⟨rfl, rfl, hl⟩ | ⟨hj, hx2⟩
    · exact ⟨_, h1, rfl, m, vs, upd_same, by rw [hm]; exact r⟩
    · obtain ⟨y, g1, g2⟩ := c.sl j x hx2
      refine ⟨y, g1, ?_⟩
      cases x with
      | un => trivial
      | dat d =>
        obtain ⟨v, e, r⟩ := g2
        exact ⟨v, e, by rw [hm]; exact r⟩
      | own q fs =>
        obtain ⟨e, mq, us, g3, r⟩ := g2
        have n : q ≠ p := fun z => by
          subst z
          exact hj (c.dj i j _ _ _ hi hx2)
        exact ⟨e, mq, us, by rw [upd_ne n]; exact g3, by rw [hm]; exact r⟩
      | bag => exact g2
      | sq ds =>
        obtain ⟨q, vs, k1, k2, k3, k4⟩ := g2
        exact ⟨q, vs, k1, k2, k3, by rw [hm]; exact k4⟩
      | sl ds =>
        obtain ⟨q, vs, k1, k2, k3, k4⟩ := g2
        exact ⟨q, vs, k1, k2, k3, by rw [hm]; exact k4⟩
  · rcases set_key h1 with ⟨rfl, z, _⟩ | ⟨hj, h1⟩
    · cases z
      rcases set_key h2 with ⟨rfl, _, _⟩ | ⟨hk, h2⟩
      · rfl
      · exact c.dj _ _ _ _ _ hi h2
    · rcases set_key h2 with ⟨rfl, z, _⟩ | ⟨hk, h2⟩
      · cases z
        exact c.dj _ _ _ _ _ h1 hi
      · exact c.dj j k q e1 e2 h1 h2
  · rcases set_key h with ⟨rfl, z, _⟩ | ⟨hj, h⟩
    · cases z
      exact ⟨h0, hb⟩
    · exact c.oh j q e1 h
/-- the own list is looked at as data from here on -/
theorem Ctx.freeze (c : Ctx F M σ H δ) {i : Nat} {p : Addr} {ds : OD} (hi : δ[i]? = some (.own p ds)) : Ctx F (shw M p) σ H (δ.set i (.dat ds.d)) := by
  obtain ⟨y, h1, hy, m, ws, h3, r0⟩ := c.sl i _ hi
  subst hy
  obtain ⟨h0, hb⟩ := c.oh i p ds hi
  have s : Same (hd M H) (hd (shw M p) H) := same_hd_le shw_le
  have n0 : ∀ a, F.M0 a = true → a ≠ p := fun a mm e => by
    subst e
    obtain ⟨o, h⟩ := c.al0 _ mm
    rw [h0] at h
    cases h
  refine ⟨fun a q => c.al a (shw_le a q), c.al0, fun a q => by rw [shw_ne (n0 a q)]; exact c.m0 a q, c.fr, c.bg, by rw [List.length_set, c.ln], fun j x hx => ?_, fun j k q e1 e2 h1 h2 => ?_, fun j q e1 h => ?_⟩
  · rcases set_key hx with ⟨rfl, rfl, hl⟩ | ⟨hj, hx2⟩
    · exact ⟨_, h1, _, rfl, (r0.mono s).rep (hd_at shw_same h3)⟩
    · obtain ⟨y, g1, g2⟩ := c.sl j x hx2
      refine ⟨y, g1, ?_⟩
      cases x with
      | un => trivial
      | dat d =>
        obtain ⟨v, e, r⟩ := g2
        exact ⟨v, e, r.mono s⟩
      | own q fs =>
        obtain ⟨e, mq, us, g3, r⟩ := g2
        have n : q ≠ p := fun z => by
          subst z
          exact hj (c.dj i j _ _ _ hi hx2)
        exact ⟨e, by rw [shw_ne n]; exact mq, us, g3, r.mono s⟩
      | bag => exact g2
      | sq ds =>
        obtain ⟨q, vs, k1, k2, k3, k4⟩ := g2
        exact ⟨q, vs, k1, k2, k3, k4.mono s⟩
      | sl ds =>
        obtain ⟨q, vs, k1, k2, k3, k4⟩ := g2
        exact ⟨q, vs, k1, k2, k3, k4.mono s⟩
  · rcases set_key h1 with ⟨rfl, z, _⟩ | ⟨hj, h1⟩
    · cases z
    rcases set_key h2 with ⟨rfl, z, _⟩ | ⟨hk, h2⟩
    · cases z
    exact c.dj j k q e1 e2 h1 h2
  · rcases set_key h with ⟨rfl, z, _⟩ | ⟨hj, h⟩
    · cases z
    exact c.oh j q e1 h
end
/-- an expression that makes a new list -/
def EvN (F : Fm) (te : TE) (δ : List SD) (P : List D → Prop) : Prop := ∀ M σ H (Q : VK), Ctx F M σ H δ →
  (∀ p vs ds H', P ds → Ctx F (hid M p) σ H' δ → H p = none → F.H0 p = none → ¬ F.mv p → (∀ (j : Nat) (es : OD), δ[j]? ≠ some (.own p es)) → StepB F.mv H H' → H' p = some (.lst vs) → RepL F.K (hd (hid M p) H') vs ds → Q (.ref p) H') → te σ H Q
section
variable {F : Fm} {δ : List SD} {ta tb tc te : TE} {t u ts : TS} {tt tu : TT} {P : List D → Prop} {PX : List D → Prop} {R : PD} {M : Addr → Bool} {σ : L2.St} {H H' : Hp} {g : TG} {gs : TGs} {wi : TI}
theorem Ctx.nob (c : Ctx F M σ H δ) {p : Addr} (hp : H p = none) : ¬ F.mv p := fun z => by
  rcases z with z | z
  case inr =>
    obtain ⟨_, ps, h⟩ := c.bg.2 p z
    rw [hp] at h
    cases h
  obtain ⟨_, h, _⟩ := c.bg.1 p z
  obtain ⟨o, h⟩ := h.at
  rw [hp] at h
  cases h
theorem Ctx.h0 (c : Ctx F M σ H δ) {p : Addr} (hp : H p = none) : F.H0 p = none := by
  cases q : F.H0 p with
  | none => rfl
  | some o =>
    have := c.fr p o (c.nob hp) q
    rw [hp] at this
    cases this
theorem Ctx.nown (c : Ctx F M σ H δ) {p : Addr} (hp : H p = none) : ∀ (j : Nat) (es : OD), δ[j]? ≠ some (.own p es) := fun j es h => by
  obtain ⟨s, _, _, _, vs, h3, _⟩ := c.sl j _ h
  rw [hp] at h3
  cases h3
theorem al_none {p : Addr} (al : Al M H) (hp : H p = none) : M p = false := by
  cases e : M p with
  | true =>
    obtain ⟨u, h⟩ := al p e
    rw [hp] at h
    cases h
  | false => rfl
theorem EvN.ev {P : D → Prop} (h : EvN F te δ fun ds => P (.lst ds)) : Ev F te δ P := fun M σ H Q c q =>
  h M σ H Q c fun p vs ds H' pd c' hp h0 hb no e hl r => by
    have m := al_none c.al hp
    have s : Same (hd (hid M p) H') (hd M H') := same_hd_le hid_le
    exact q _ (.lst ds) H' pd (c'.show' m h0 no) e (.lst (hd_at m hl) (r.mono s))
theorem en_lst {ta : TA} (h : EvA F ta δ fun ds => ds.length ≤ 100000 ∧ P ds) : EvN F (tLst ta) δ P := fun M σ H Q c q =>
  h M σ H _ c fun vs ds H1 p1 c1 e1 r1 => ⟨by rw [r1.length]; exact sz_of p1.1, fun p hp => by
    have hp0 : H p = none := by
      cases z : H p with
      | none => rfl
      | some o =>
        have := e1 p o (c1.nob hp) z
        rw [hp] at this
        cases this
    have c2 := c1.hide hp (o := .lst vs)
    refine q p vs ds _ p1.2 c2 hp0 (c1.h0 hp) (c1.nob hp) (c1.nown hp) (e1.trans (StepB.of (same_new hp))) upd_same (r1.mono fun a u e => ?_)
    obtain ⟨m, h⟩ := hd_of e
    have n : a ≠ p := ne_of_none h hp
    exact hd_at (by rw [hid_ne n]; exact m) (by rw [upd_ne n]; exact h)⟩
/-- a slot takes a new list as its own -/
theorem do_own {i : Nat} (h : EvN F te δ fun ds => ∀ p, R.nx (δ.set i (.own p (.lst ds)))) : Do F (tAsg te (gName i)) δ R := fun M σ H E c a b k d =>
  h M σ H _ c fun p vs ds H' pd c' hp h0 hb no e hl r => a (hid M p) _ H' _ (pd p) (c'.setOwn i hid_same hl (.lst r) h0 hb fun j es _ => no j es) fun x o hx => by
    obtain ⟨m, h1⟩ := hd_of hx
    have n : x ≠ p := ne_of_none h1 hp
    refine hd_at (by rw [hid_ne n]; exact m) (e x o (fun z => ?_) h1)
    have := c.m0 x (z.elim (fun z => (c.bg.1 x z).1) fun z => (c.bg.2 x z).1)
    rw [m] at this
    cases this
theorem do_freeze {i : Nat} {p : Addr} {ds : OD} (hi : δ[i]? = some (.own p ds)) (h : Do F t (δ.set i (.dat ds.d)) R) : Do F t δ R := fun M σ H E c a b k d => by
  have s : Same (hd M H) (hd (shw M p) H) := same_hd_le shw_le
  exact h (shw M p) σ H E (c.freeze hi) (fun M2 σ2 H2 δ2 p2 c2 s2 => a M2 σ2 H2 δ2 p2 c2 (s.trans s2)) (fun v x M2 σ2 H2 δ2 p2 c2 s2 => b v x M2 σ2 H2 δ2 p2 c2 (s.trans s2))
    (fun M2 σ2 H2 δ2 p2 c2 s2 => k M2 σ2 H2 δ2 p2 c2 (s.trans s2)) (fun M2 σ2 H2 δ2 p2 c2 s2 => d M2 σ2 H2 δ2 p2 c2 (s.trans s2))
theorem do_append {i : Nat} {p : Addr} {ds : List D} (hi : δ[i]? = some (.own p (.lst ds))) (hl : ds.length < 100000) (h : Ev F te δ fun x => R.nx (δ.set i (.own p (.lst (ds ++ [x]))))) :
    Do F (tDrop (tBM F.K "list" rAppend (tVar i) (tCons te tNil))) δ R := fun M σ H E c a b k d => by
  obtain ⟨y, h1, hy, m, ho, h3, r0⟩ := c.sl i _ hi
  subst hy
  cases r0 with
  | @lst ws _ r0 =>
  refine ⟨_, h1, .inl ⟨rfl, ws, SqL.of h3⟩, ?_⟩
  refine h M σ H _ c fun v x H1 px c1 e r => ?_
  have h4 := e p _ (c.oh i p _ hi).2 h3
  have s := hd_step c e
  refine ⟨p, ws, v, rfl, rfl, h4, by rw [r0.length]; exact sz_lt hl, ?_⟩
  refine a M σ _ _ px (c1.put hi (.lst ((r0.mono s).append (RepL.one r)))) ?_
  rw [hd_upd m]
  exact s
theorem do_clear {i : Nat} {p : Addr} {ds : List D} (hi : δ[i]? = some (.own p (.lst ds))) (h : R.nx (δ.set i (.own p (.lst [])))) : Do F (tDrop (tBM0 F.K "list" rClear (tVar i))) δ R := fun M σ H E c a b k d => by
  obtain ⟨y, h1, hy, m, ho, h3, r0⟩ := c.sl i _ hi
  subst hy
  cases r0 with
  | @lst ws _ r0 =>
  refine ⟨_, h1, .inl ⟨rfl, ws, SqL.of h3⟩, p, ws, rfl, rfl, h3, ?_⟩
  refine a M σ _ _ h (c.put hi (.lst .nil)) ?_
  rw [hd_upd m]
  exact Same.refl _
/-! comprehensions -/
theorem en_lc {js vs : List Nat} (hw : ItD F wi δ PX) (hl : ∀ xs, PX xs → xs.length ≤ 100000) (hj : ∀ j ∈ js, j ∈ vs) (I : List D → Nat → List D → Prop) (h0 : ∀ xs, PX xs → I xs 0 [])
    (hs : ∀ xs i x acc, PX xs → xs[i]? = some x → I xs i acc → TgD F g js x (wipeD δ vs) fun δ' => EvT F tt δ' fun b => (b = true → Ev F te δ' fun y => I xs (i + 1) (acc ++ [y])) ∧ (b = false → I xs (i + 1) acc))
    (he : ∀ xs ds, PX xs → I xs xs.length ds → P ds) : EvN F (tLc wi g tt te vs) δ P := fun M σ H Q c q => by
  refine hw M σ H _ c fun J xs H1 px c1 e1 wd => ?_
  intro A hA
  obtain ⟨G, Y, w, wg, wy⟩ := wd
  have hA0 : H A = none := by
    cases z : H A with
    | none => rfl
    | some o =>
      have := e1 A o (c1.nob hA) z
      rw [hA] at this
      cases this
  have c2 := c1.hide hA (o := .lst [])
  have mA := al_none c1.al hA
  have s0 : Same (hd M H1) (hd (hid M A) (upd H1 A (.lst []))) := fun a u e => by
    obtain ⟨m, h⟩ := hd_of e
    have n : a ≠ A := ne_of_none h hA
    exact hd_at (by rw [hid_ne n]; exact m) (by rw [upd_ne n]; exact h)
  have k0 : StepB F.mv H (upd H1 A (.lst [])) := e1.trans (StepB.of (same_new hA))
  have hlen := hl xs px
  -- the wiped slots are wiped once and for all
  have ww : ∀ σ2 : L2.St, wipe σ2 vs = wipe (wipe σ vs) vs → wipe σ2 vs = wipe σ vs := fun σ2 h => by
    rw [h]
    have key : ∀ (ws : List Nat) (τ : L2.St), (∀ j ∈ ws, j ∈ vs) → wipe (wipe τ ws) vs = wipe τ vs := by
      intro ws
      induction ws with
      | nil => intro τ _; rfl
      | cons j js ih =>
        intro τ hjs
        show wipe ((wipe τ js).set j none) vs = wipe τ vs
        rw [wipe_set (hjs j (by simp)), ih τ fun k hk => hjs k (List.mem_cons_of_mem _ hk)]
    exact key vs σ fun _ h => h
  refine lc_it w (fun i H' => ∃ ws acc, I xs i acc ∧ acc.length ≤ i ∧ Ctx F (hid M A) σ H' δ ∧ StepB F.mv H H' ∧ Same (hd M H1) (hd (hid M A) H') ∧ H' A = some (.lst ws) ∧ RepL F.K (hd (hid M A) H') ws acc)
    ⟨[], [], h0 xs px, Nat.le_refl _, c2, k0, s0, upd_same, .nil⟩ (fun i H' _ ⟨_, _, _, _, c', _, s, _⟩ => wg (hid M A) H' s c'.fr) ?_ ?_
  · rintro i x H' H2 hi ⟨ws, acc, hI, ha, c', k', s, hAl, r⟩ y
    obtain ⟨s2, dx, h1, rx⟩ := wy (hid M A) H' i x H2 c'.al s y
    have c2 := c'.same s2
    refine hs xs i dx acc px h1 hI (hid M A) (wipe σ vs) H2 x _ (c2.wipe vs) rx fun σ3 H3 δ3 p3 c3 e3 w3 => ⟨ww σ3 (w3 vs hj), ?_⟩
    refine p3 (hid M A) σ3 H3 _ c3 fun b H4 pb c4 e4 => ?_
    have k4 : StepB F.mv H2 H4 := e3.trans e4
    have c24 : Ctx F (hid M A) σ H4 δ := c2.stepG k4 c4.bg
    have s24 : Same (hd (hid M A) H2) (hd (hid M A) H4) := hd_step c2 k4
    have hA2 : H2 A = some (.lst ws) := s2 _ _ hAl
    have hA4 : H4 A = some (.lst ws) := k4 A _ (c1.nob hA) hA2
    have k' : StepB F.mv H H2 := k'.trans (StepB.of s2)
    have s' : Same (hd M H1) (hd (hid M A) H2) := s.trans (same_hdM s2)
    have r' : RepL F.K (hd (hid M A) H2) ws acc := r.mono (same_hdM s2)
    cases b with
    | false =>
      rw [if_neg Bool.false_ne_true]
      exact ⟨ws, acc, pb.2 rfl, Nat.le_succ_of_le ha, c24, k'.trans k4, s'.trans s24, hA4, r'.mono s24⟩
    | true =>
      rw [if_pos rfl]
      refine pb.1 rfl (hid M A) σ3 H4 _ c4 fun v d H5 pd c5 e5 r5 => ?_
      have k5 : StepB F.mv H2 H5 := k4.trans e5
      have c25 : Ctx F (hid M A) σ H5 δ := c2.stepG k5 c5.bg
      have s25 : Same (hd (hid M A) H2) (hd (hid M A) H5) := hd_step c2 k5
      have hA5 : H5 A = some (.lst ws) := k5 A _ (c1.nob hA) hA2
      have hm : hd (hid M A) (upd H5 A (.lst (ws ++ [v]))) = hd (hid M A) H5 := hd_upd hid_same
      have hal : acc.length < 100000 := by omega
      refine ⟨ws, hA5, by rw [r.length]; exact sz_lt hal, ws ++ [v], acc ++ [d], pd, by simp only [List.length_append, List.length_cons, List.length_nil]; omega, ?_, ?_, ?_, upd_same, ?_⟩
      · refine c25.poke hid_same hA5 (c1.h0 hA) (c1.nob hA) (c1.nown hA)
      · intro a o n h
        by_cases e : a = A
        · subst e
          rw [hA0] at h
          cases h
        · rw [upd_ne e]
          exact k5 a o n (k' a o n h)
      · rw [hm]
        exact s'.trans s25
      · rw [hm]
        exact (r'.mono s25).append (RepL.one r5)
  · rintro H' ⟨ws, acc, hI, ha, c', k', s, hAl, r⟩
    exact q A ws acc H' (he xs acc px hI) c' hA0 (c1.h0 hA) (c1.nob hA) (c1.nown hA) k' hAl r
end
end Pf

namespace Pf
open PySem L2 RZ

/-! ### calls of defs -/
/-- a promise that speaks of data alone; one of a def whose first argument is the bag -/
def spD (K : PySem.W.Frag) (Pre : List D → Prop) (Post : List D → D → Prop) : Sp := fun vs H Q _ => ∃ (M : Addr → Bool) (ds : List D), Al M H ∧ RepL K (hd M H) vs ds ∧ Pre ds ∧
  ∀ v d H', Post ds d → Same H H' → Rep K (hd M H') v d → Q v H'
def spB (K : PySem.W.Frag) (Pre : List D → Prop) (Post : List D → D → Prop) : Sp := fun vs H Q _ => ∃ (M : Addr → Bool) (b c : Addr) (ws : List V) (ds : List D), vs = .ref b :: ws ∧ Al M H ∧ M b = true ∧ BagAt H b c ∧ RepL K (hd M H) ws ds ∧ Pre ds ∧
  ∀ v d H', Post ds d → StepB (· = b) H H' → BagAt H' b c → Rep K (hd M H') v d → Q v H'
section
variable {F : Fm} {δ : List SD} {ta : TA} {te : TE} {P : D → Prop} {Pre : List D → Prop} {Post : List D → D → Prop} {E : XK}
theorem ev_call (h : EvA F ta δ fun ds => Pre ds ∧ ∀ d, Post ds d → P d) : Ev F (tCall (spD F.K Pre Post) [] E ta) δ P := fun M σ H Q c q =>
  h M σ H _ c fun vs ds H1 p c1 e1 r => by
    rw [List.append_nil]
    exact ⟨M, ds, c1.al, r, p.1, fun v d H2 pd s r2 => q v d H2 (p.2 d pd) (c1.same s) (e1.trans (StepB.of s)) r2⟩
/-- with defaults behind -/
theorem ev_callD {dvs : List V} {dds : List D} (hd' : ∀ H, RepL F.K H dvs dds) (h : EvA F ta δ fun ds => Pre (ds ++ dds) ∧ ∀ d, Post (ds ++ dds) d → P d) : Ev F (tCall (spD F.K Pre Post) dvs E ta) δ P := fun M σ H Q c q =>
  h M σ H _ c fun vs ds H1 p c1 e1 r =>
    ⟨M, ds ++ dds, c1.al, r.append (hd' _), p.1, fun v d H2 pd s r2 => q v d H2 (p.2 d pd) (c1.same s) (e1.trans (StepB.of s)) r2⟩
theorem ev_callB {i : Nat} {b : Addr} (hb : F.B = some b) (hi : δ[i]? = some .bag) (h : EvA F ta δ fun ds => Pre ds ∧ ∀ d, Post ds d → P d) : Ev F (tCall (spB F.K Pre Post) [] E (tCons (tVar i) ta)) δ P := fun M σ H Q c q => by
  obtain ⟨s, h1, b', h2, h3⟩ := c.sl i _ hi
  subst h3
  rw [hb] at h2
  cases h2
  refine ⟨_, h1, ?_⟩
  refine h M σ H _ c fun vs ds H1 p c1 e1 r => ?_
  show spB F.K Pre Post (V.ref b :: vs ++ []) H1 Q E
  rw [List.append_nil]
  obtain ⟨g0, g1, g2⟩ := c1.bg.1 b hb
  refine ⟨M, b, F.C0, vs, ds, rfl, c1.al, c1.m0 b g0, g1, r, p.1, fun v d H2 pd s ba r2 => ?_⟩
  have s' : StepB F.mv H1 H2 := fun a o n h => s a o (fun z => n (.inl (by rw [hb, z]))) h
  exact q v d H2 (p.2 d pd) (c1.stepG s' ⟨fun b2 z => by
    rw [hb] at z
    cases z
    exact ⟨g0, ba, g2⟩, fun a h => by
    obtain ⟨z1, ps, z2⟩ := c1.bg.2 a h
    refine ⟨z1, ps, s a _ (fun z => ?_) z2⟩
    obtain ⟨_, _, _, _, _, g3, _⟩ := g1
    have z : a = b := z
    rw [z, g3] at z2
    cases z2⟩) (e1.trans s') r2
end
/-! ### into a def's body -/
def slots (N : List Str) (ds : List D) : List SD := ds.map .dat ++ List.replicate (N.length - ds.length) .un
def slotsB (N : List Str) (ds : List D) : List SD := .bag :: (ds.map .dat ++ List.replicate (N.length - (ds.length + 1)) .un)
theorem sl_base {K : PySem.W.Frag} {F : Fm} {M : Addr → Bool} {H : Hp} (hK : F.K = K) : ∀ {vs : List V} {ds : List D} (n : Nat), RepL K (hd M H) vs ds →
    ∀ (i : Nat) (x : SD), (ds.map SD.dat ++ List.replicate n .un)[i]? = some x → ∃ s, (vs.map some ++ List.replicate n none)[i]? = some s ∧ SlotOk F M H s x
  | [], [], n, .nil, i, x, h => by
    simp only [List.map_nil, List.nil_append, List.getElem?_replicate] at h ⊢
    split at h
    · rename_i hi
      cases h
      exact ⟨none, by rw [if_pos hi], trivial⟩
    · cases h
  | v :: vs, d :: ds, n, .cons r rs, 0, x, h => by
    have e : SD.dat d = x := by simpa using h
    subst e
    exact ⟨some v, rfl, v, rfl, by rw [hK]; exact r⟩
  | v :: vs, d :: ds, n, .cons r rs, i + 1, x, h => sl_base hK n rs i x (by simpa using h)
theorem no_own {ds : List D} {n : Nat} {i : Nat} {p : Addr} {es : OD} : (ds.map SD.dat ++ List.replicate n .un)[i]? ≠ some (.own p es) := fun h => by
  have := List.mem_of_getElem? h
  rcases List.mem_append.mp this with h | h
  · obtain ⟨d, _, e⟩ := List.mem_map.mp h
    cases e
  · have := List.eq_of_mem_replicate h
    cases this
section
variable {K : PySem.W.Frag} {N : List Str} {vs : List V} {H : Hp} {Q : VK} {E : XK} {t : TS} {Pre : List D → Prop} {Post : List D → D → Prop}
theorem enterD (hs : spD K Pre Post vs H Q E) (hb : ∀ (M : Addr → Bool) (ds : List D), Pre ds → ds.length = vs.length → Do ⟨K, none, M, H, E, 0, []⟩ t (slots N ds) { nx := fun _ => Post ds .non, rt := Post ds }) :
    t { nx := fun _ H' => Q .non H', rt := Q } (L2.start N vs) H := by
  obtain ⟨M, ds, al, r, pre, q⟩ := hs
  have hl := r.length
  have c : Ctx ⟨K, none, M, H, E, 0, []⟩ M (L2.start N vs) H (slots N ds) := by
    refine ⟨al, al, fun _ h => h, StepB.refl _ _, ⟨fun b z => (nomatch z), fun a h => (nomatch h)⟩, ?_, ?_, fun i j p es fs h1 h2 => absurd h1 no_own, fun i p es h => absurd h no_own⟩
    · unfold L2.start slots
      rw [List.length_append, List.length_append, List.length_map, List.length_map, List.length_replicate, List.length_replicate, hl]
    · unfold L2.start slots
      rw [hl]
      exact sl_base rfl _ r
  refine hb M ds pre hl.symm M _ H _ c (fun M' σ' H' δ' p c' s => ?_) (fun v d M' σ' H' δ' p c' s r' => ?_) (fun _ _ _ _ p => p.elim) (fun _ _ _ _ p => p.elim)
  · exact q _ _ H' p (fun a o h => c'.fr a o (mv_none rfl rfl a) h) .non
  · exact q v d H' p (fun a o h => c'.fr a o (mv_none rfl rfl a) h) (r'.mono (same_hd_le fun a h => c'.m0 a h))
theorem enterB (hs : spB K Pre Post vs H Q E) (hb : ∀ (M : Addr → Bool) (b c : Addr) (ds : List D), Pre ds → ds.length + 1 = vs.length → Do ⟨K, some b, M, H, E, c, []⟩ t (slotsB N ds) { nx := fun _ => Post ds .non, rt := Post ds }) :
    t { nx := fun _ H' => Q .non H', rt := Q } (L2.start N vs) H := by
  obtain ⟨M, b, cc, ws, ds, rfl, al, mb, ba, r, pre, q⟩ := hs
  have hl := r.length
  have hc : ∃ o, H cc = some o := by
    obtain ⟨ns, i, z, s, t, _, _, h3, _⟩ := ba
    exact ⟨_, h3⟩
  have c : Ctx ⟨K, some b, M, H, E, cc, []⟩ M (L2.start N (.ref b :: ws)) H (slotsB N ds) := by
    refine ⟨al, al, fun _ h => h, StepB.refl _ _, ⟨fun b z => ?_, fun a h => (nomatch h)⟩, ?_, fun i x h => ?_, fun i j p es fs h1 h2 => ?_, fun i p es h => ?_⟩
    · cases z
      exact ⟨mb, ba, hc⟩
    · unfold L2.start slotsB
      simp only [List.length_append, List.length_cons, List.length_map, List.length_replicate, hl]
      omega
    · unfold L2.start
      unfold slotsB at h
      cases i with
      | zero =>
        have e : SD.bag = x := by simpa using h
        subst e
        exact ⟨_, rfl, b, rfl, rfl⟩
      | succ i =>
        have h' : (ds.map SD.dat ++ List.replicate (N.length - (ds.length + 1)) .un)[i]? = some x := by simpa using h
        rw [List.length_cons, hl]
        exact sl_base rfl _ r i x h'
    · unfold slotsB at h1
      cases i with
      | zero => cases (show SD.bag = SD.own p es by simpa using h1)
      | succ i => exact absurd (show (ds.map SD.dat ++ List.replicate (N.length - (ds.length + 1)) .un)[i]? = some (.own p es) by simpa using h1) no_own
    · unfold slotsB at h
      cases i with
      | zero => cases (show SD.bag = SD.own p es by simpa using h)
      | succ i => exact absurd (show (ds.map SD.dat ++ List.replicate (N.length - (ds.length + 1)) .un)[i]? = some (.own p es) by simpa using h) no_own
  refine hb M b cc ds pre (by rw [List.length_cons, hl]) M _ H _ c (fun M' σ' H' δ' p c' s => ?_) (fun v d M' σ' H' δ' p c' s r' => ?_) (fun _ _ _ _ p => p.elim) (fun _ _ _ _ p => p.elim)
  · exact q _ _ H' p (fun a o n h => c'.fr a o (mv_bag rfl rfl n) h) (c'.bg.1 b rfl).2.1 .non
  · exact q v d H' p (fun a o n h => c'.fr a o (mv_bag rfl rfl n) h) (c'.bg.1 b rfl).2.1 (r'.mono (same_hd_le fun a h => c'.m0 a h))
end
theorem spD_len {K : PySem.W.Frag} {Pre : List D → Prop} {Post : List D → D → Prop} {n : Nat} (h : ∀ ds, Pre ds → ds.length = n) : ∀ vs H Q E, spD K Pre Post vs H Q E → vs.length = n := fun vs H Q E ⟨M, ds, _, r, p, _⟩ => by rw [r.length, h ds p]
theorem spB_len {K : PySem.W.Frag} {Pre : List D → Prop} {Post : List D → D → Prop} {n : Nat} (h : ∀ ds, Pre ds → ds.length + 1 = n) : ∀ vs H Q E, spB K Pre Post vs H Q E → vs.length = n := fun vs H Q E ⟨M, b, c, ws, ds, e, _, _, _, r, p, _⟩ => by
  subst e
  rw [List.length_cons, r.length, h ds p]

/-! ### operations -/
section
variable {K : PySem.W.Frag} {P : D → Prop} {i j : Int} {x y : D}
theorem od_eq_int (p : P (.bl (decide (i = j)))) : OpD K rEq (.int i) (.int j) P := fun M H v w Q al r1 r2 q => by
  cases r1
  cases r2
  exact ⟨rfl, q _ _ H (show P (.bl (decide (V.int i = V.int j))) by rw [show decide (V.int i = V.int j) = decide (i = j) by rw [dec_int, Bool.beq_eq_decide_eq]]; exact p) (Same.refl H) (.bl _)⟩
theorem od_ne_int (p : P (.bl (!decide (i = j)))) : OpD K rNe (.int i) (.int j) P := fun M H v w Q al r1 r2 q => by
  cases r1
  cases r2
  exact ⟨rfl, q _ _ H (show P (.bl (!decide (V.int i = V.int j))) by rw [show decide (V.int i = V.int j) = decide (i = j) by rw [dec_int, Bool.beq_eq_decide_eq]]; exact p) (Same.refl H) (.bl _)⟩
theorem od_eq_bl {a b : Bool} (p : P (.bl (decide (a = b)))) : OpD K rEq (.bl a) (.bl b) P := fun M H v w Q al r1 r2 q => by
  cases r1
  cases r2
  exact ⟨rfl, q _ _ H (show P (.bl (decide (V.bl a = V.bl b))) by rw [show decide (V.bl a = V.bl b) = decide (a = b) by rw [dec_bl, Bool.beq_eq_decide_eq]]; exact p) (Same.refl H) (.bl _)⟩
theorem od_ne_bl {a b : Bool} (p : P (.bl (!decide (a = b)))) : OpD K rNe (.bl a) (.bl b) P := fun M H v w Q al r1 r2 q => by
  cases r1
  cases r2
  exact ⟨rfl, q _ _ H (show P (.bl (!decide (V.bl a = V.bl b))) by rw [show decide (V.bl a = V.bl b) = decide (a = b) by rw [dec_bl, Bool.beq_eq_decide_eq]]; exact p) (Same.refl H) (.bl _)⟩
theorem od_eq_str {a b : Str} (p : P (.bl (decide (a = b)))) : OpD K rEq (.str a) (.str b) P := fun M H v w Q al r1 r2 q => by
  cases r1
  cases r2
  exact ⟨rfl, q _ _ H (show P (.bl (decide (V.str a = V.str b))) by rw [show decide (V.str a = V.str b) = decide (a = b) by rw [dec_str, Bool.beq_eq_decide_eq]]; exact p) (Same.refl H) (.bl _)⟩
theorem od_ne_str {a b : Str} (p : P (.bl (!decide (a = b)))) : OpD K rNe (.str a) (.str b) P := fun M H v w Q al r1 r2 q => by
  cases r1
  cases r2
  exact ⟨rfl, q _ _ H (show P (.bl (!decide (V.str a = V.str b))) by rw [show decide (V.str a = V.str b) = decide (a = b) by rw [dec_str, Bool.beq_eq_decide_eq]]; exact p) (Same.refl H) (.bl _)⟩
/-- x is None -/
def isNon : D → Bool | .non => true | _ => false
theorem rep_non {H : Hp} {v : V} (r : Rep K H v x) : decide (v = .non) = isNon x := by
  cases r <;> rfl
theorem ud_isN (p : P (.bl (isNon x))) : OpD K (fun x y H Q => y = .non ∧ Q (.bl (decide (x = .non))) H) x .non P := fun M H v w Q al r1 r2 q => by
  have e := rep_non r1
  cases r2
  exact ⟨rfl, by rw [e]; exact q _ _ H p (Same.refl H) (.bl _)⟩
theorem ud_notN (p : P (.bl (!isNon x))) : OpD K (fun x y H Q => y = .non ∧ Q (.bl (!decide (x = .non))) H) x .non P := fun M H v w Q al r1 r2 q => by
  have e := rep_non r1
  cases r2
  exact ⟨rfl, by rw [e]; exact q _ _ H p (Same.refl H) (.bl _)⟩
theorem repL_at {H : Hp} {vs : List V} {ds : List D} {d : D} (r : RepL K H vs ds) (h : atI ds i = some d) : ∃ v, atI vs i = some v ∧ Rep K H v d := by
  unfold atI at h ⊢
  rw [r.length]
  cases e : ixN ds.length i with
  | none => rw [e] at h; cases h
  | some k =>
    rw [e] at h
    exact r.get h
theorem od_ixL {ds : List D} {d : D} (h : atI ds i = some d) (p : P d) : OpD K (rIxL K) (.lst ds) (.int i) P := fun M H v w Q al r1 r2 q => by
  cases r1 with
  | lst h1 h2 =>
    cases r2
    obtain ⟨v, e, r⟩ := repL_at h2 h
    exact ⟨_, _, i, v, rfl, rfl, SqL.of (hd_of h1).2, e, q v d H p (Same.refl H) r⟩
theorem od_ixT {ds : List D} {d : D} (h : atI ds i = some d) (p : P d) : OpD K (rIxT K) (.tup ds) (.int i) P := fun M H v w Q al r1 r2 q => by
  cases r1 with
  | tup h1 h2 =>
    cases r2
    obtain ⟨v, e, r⟩ := repL_at h2 h
    exact ⟨_, _, i, v, rfl, rfl, same_tup (same_hd M H) h1, e, q v d H p (Same.refl H) r⟩
theorem od_ixS {z : Str} {c : Nat} (hz : z.length ≤ 100000) (h : atI z.cps.toList i = some c) (p : P (.str ⟨#[c]⟩)) : OpD K rIxS (.str z) (.int i) P := fun M H v w Q al r1 r2 q => by
  cases r1
  cases r2
  exact ⟨z, i, c, rfl, rfl, sz_of hz, h, q _ _ H p (Same.refl H) (.str _)⟩
theorem atI_nat' {α : Type} {xs : List α} {i : Int} (h0 : 0 ≤ i) (h : i.toNat < xs.length) : atI xs i = some (xs[i.toNat]) := by
  obtain ⟨n, rfl⟩ : ∃ n : Nat, i = (n : Int) := ⟨i.toNat, by omega⟩
  exact atI_nat (by simp)
theorem od_addS {a b : Str} (h : a.length + b.length ≤ 100000) (p : P (.str (a ++ b))) : OpD K (fun x y H Q => ∃ i j, x = .str i ∧ y = .str j ∧ i.length + j.length ≤ sizeLine ∧ Q (.str (i ++ j)) H) (.str a) (.str b) P := fun M H v w Q al r1 r2 q => by
  cases r1
  cases r2
  exact ⟨a, b, rfl, rfl, sz_of h, q _ _ H p (Same.refl H) (.str _)⟩
theorem od_leS {a b : Str} (p : P (.bl (!decide (b.cps.toList < a.cps.toList)))) : OpD K (fun x y H Q => ∃ i j, x = .str i ∧ y = .str j ∧ Q (.bl (!decide (j.cps.toList < i.cps.toList))) H) (.str a) (.str b) P := fun M H v w Q al r1 r2 q => by
  cases r1
  cases r2
  exact ⟨a, b, rfl, rfl, q _ _ H p (Same.refl H) (.bl _)⟩
theorem od_inSign {c : Nat} {z : Str} (p : P (.bl (decide (c ∈ z.cps.toList)))) : OpD K (fun x y H Q => ∃ (c : Nat) (z : Str), x = .str ⟨#[c]⟩ ∧ y = .str z ∧ Q (.bl (decide (c ∈ z.cps.toList))) H) (.str ⟨#[c]⟩) (.str z) P := fun M H v w Q al r1 r2 q => by
  cases r1
  cases r2
  exact ⟨c, z, rfl, rfl, q _ _ H p (Same.refl H) (.bl _)⟩
theorem od_cat {xs ys : List D} (h : xs.length + ys.length ≤ 100000) (p : P (.lst (xs ++ ys))) : OpD K rCat (.lst xs) (.lst ys) P := fun M H v w Q al r1 r2 q => by
  cases r1 with
  | lst h1 h2 =>
    cases r2 with
    | lst h3 h4 =>
      refine ⟨_, _, _, _, rfl, rfl, (hd_of h1).2, (hd_of h3).2, by rw [h2.length, h4.length]; exact sz_of h, fun p' hp => ?_⟩
      exact q _ _ _ p (same_new hp) (.lst (hd_new al hp) ((h2.append h4).mono (same_hdM (same_new hp))))
theorem repL_rep {H : Hp} {vs : List V} {ds : List D} (r : RepL K H vs ds) : ∀ n : Nat, RepL K H (List.replicate n vs).flatten (List.replicate n ds).flatten
  | 0 => .nil
  | n + 1 => by
    rw [List.replicate_succ, List.replicate_succ, List.flatten_cons, List.flatten_cons]
    exact r.append (repL_rep r n)
theorem od_rep {xs : List D} {k : Int} (h0 : 0 ≤ k) (h : k ≤ 100000) (hz : xs.length * k.toNat ≤ 100000) (p : P (.lst (List.replicate k.toNat xs).flatten)) : OpD K rRep (.lst xs) (.int k) P := fun M H v w Q al r1 r2 q => by
  cases r1 with
  | lst h1 h2 =>
    cases r2
    refine ⟨_, k, _, rfl, rfl, (hd_of h1).2, by omega, by omega, by rw [h2.length]; exact sz_of hz, fun p' hp => ?_⟩
    exact q _ _ _ p (same_new hp) (.lst (hd_new al hp) ((repL_rep h2 _).mono (same_hdM (same_new hp))))
/-! slices -/
def cutD (xs : List D) (lo hi : Option Int) : List D := (xs.drop (HT.sIx xs.length 0 lo)).take (HT.sIx xs.length xs.length hi - HT.sIx xs.length 0 lo)
theorem cutD_length {xs : List D} {lo hi : Option Int} : (cutD xs lo hi).length ≤ xs.length := by
  unfold cutD
  rw [List.length_take, List.length_drop]
  omega
theorem repL_cut {H : Hp} {vs : List V} {ds : List D} (r : RepL K H vs ds) (lo hi : Option Int) : RepL K H (cutV vs lo hi) (cutD ds lo hi) := by
  unfold cutV cutD
  rw [r.length]
  exact (r.drop _).take _
end
def EvO (F : Fm) (to : TO) (δ : List SD) (P : Option Int → Prop) : Prop := ∀ M σ H (Q : Option Int → Hp → Prop), Ctx F M σ H δ →
  (∀ o H', P o → Ctx F M σ H' δ → StepB F.mv H H' → Q o H') → to σ H Q
section
variable {F : Fm} {δ : List SD} {ta tb tc te : TE} {tl th : TO} {tt tu : TT} {P : D → Prop} {PL : List D → Prop} {PO : Option Int → Prop}
theorem eo_none (p : PO none) : EvO F tNoPart δ PO := fun M σ H Q c q => q _ H p c (StepB.refl _ _)
theorem eo_some (h : Ev F te δ fun d => ∃ i, d = .int i ∧ PO (some i)) : EvO F (tPart te) δ PO := fun M σ H Q c q =>
  h M σ H _ c fun v d H1 p c1 e r => by
    obtain ⟨i, rfl, p⟩ := p
    cases r
    exact ⟨i, rfl, q _ H1 p c1 e⟩
theorem ev_slS (h : Ev F te δ fun d => EvO F tl δ fun lo => EvO F th δ fun hi => ∃ z, d = .str z ∧ z.length ≤ 100000 ∧ P (.str (cutS z lo hi))) : Ev F (tSl rSlS te tl th) δ P := fun M σ H Q c q =>
  h M σ H _ c fun v d H1 p c1 e1 r => p M σ H1 _ c1 fun lo H2 p2 c2 e2 => p2 M σ H2 _ c2 fun hi H3 p3 c3 e3 => by
    obtain ⟨z, rfl, hz, p⟩ := p3
    cases r
    exact ⟨z, rfl, sz_of hz, q _ _ H3 p c3 ((e1.trans e2).trans e3) (.str _)⟩
/-- a slice of a list: a new one -/
theorem en_slL (h : Ev F te δ fun d => EvO F tl δ fun lo => EvO F th δ fun hi => ∃ xs, d = .lst xs ∧ PL (cutD xs lo hi)) : EvN F (tSl (rSlL F.K) te tl th) δ PL := fun M σ H Q c q =>
  h M σ H _ c fun v d H1 p c1 e1 r => p M σ H1 _ c1 fun lo H2 p2 c2 e2 => p2 M σ H2 _ c2 fun hi H3 p3 c3 e3 => by
    obtain ⟨xs, rfl, pz⟩ := p3
    have r3 := r.mono ((hd_step c1 e2).trans (hd_step c2 e3))
    cases r3 with
    | lst h1 h2 =>
      refine ⟨_, _, rfl, SqL.of (hd_of h1).2, fun a ha => ?_⟩
      have k := (e1.trans e2).trans e3
      have ha0 : H a = none := by
        cases z : H a with
        | none => rfl
        | some o =>
          have := k a o (c3.nob ha) z
          rw [ha] at this
          cases this
      refine q a _ _ _ pz (c3.hide ha) ha0 (c3.h0 ha) (c3.nob ha) (c3.nown ha) (k.trans (StepB.of (same_new ha))) upd_same ((repL_cut h2 lo hi).mono fun b u e => ?_)
      obtain ⟨m, h⟩ := hd_of e
      have n : b ≠ a := ne_of_none h ha
      exact hd_at (by rw [hid_ne n]; exact m) (by rw [upd_ne n]; exact h)
/-- a slice of a tuple that is not the whole -/
theorem ev_slT (h : Ev F te δ fun d => EvO F tl δ fun lo => EvO F th δ fun hi => ∃ xs, d = .tup xs ∧ ¬ (HT.sIx xs.length 0 lo = 0 ∧ HT.sIx xs.length xs.length hi = xs.length) ∧ P (.tup (cutD xs lo hi))) : Ev F (tSl (rSlT F.K) te tl th) δ P := fun M σ H Q c q =>
  h M σ H _ c fun v d H1 p c1 e1 r => p M σ H1 _ c1 fun lo H2 p2 c2 e2 => p2 M σ H2 _ c2 fun hi H3 p3 c3 e3 => by
    obtain ⟨xs, rfl, hn, p⟩ := p3
    have r3 := r.mono ((hd_step c1 e2).trans (hd_step c2 e3))
    cases r3 with
    | tup h1 h2 =>
      refine ⟨_, _, rfl, same_tup (same_hd M H3) h1, by rw [h2.length]; exact hn, fun a ha => ?_⟩
      exact q _ _ _ p (c3.same (same_new ha)) (((e1.trans e2).trans e3).trans (StepB.of (same_new ha))) (.tup (SqT.of (hd_new c3.al ha)) ((repL_cut h2 lo hi).mono (same_hdM (same_new ha))))
end
/-! ### calls of built-ins -/
/-- the built-in type of data -/
def tyName : D → Option String
  | .non => some "NoneType" | .bl _ => some "bool" | .int _ => some "int" | .str _ => some "str" | .lst _ => some "list" | .tup _ => some "tuple" | .dic _ => some "dict" | _ => none
def tyNames : List String := ["NoneType", "bool", "int", "str", "list", "tuple", "dict"]
def tyAsk : List String := ["bool", "int", "str", "list", "tuple", "dict"]
/-- isinstance by names -/
def isTy (a n : String) : Bool := a == n || (a == "bool" && n == "int")
theorem kit_all : (tyNames.all fun a => tyAsk.all fun n => decide (kitB a n = some (isTy a n))) = true := by decide +kernel
theorem kit_isTy {a n : String} (ha : a ∈ tyNames) (hn : n ∈ tyAsk) : kitB a n = some (isTy a n) :=
  of_decide_eq_true (List.all_eq_true.mp (List.all_eq_true.mp kit_all a ha) n hn)
theorem tyName_mem {d : D} {a : String} (h : tyName d = some a) : a ∈ tyNames := by
  cases d <;> simp only [tyName, Option.some.injEq, reduceCtorEq] at h <;> (subst h; decide)
theorem tyX_of {K : PySem.W.Frag} {H : Hp} {v : V} {d : D} {a : String} (r : Rep K H v d) (h : tyName d = some a) : TyX K H v (.type a) := by
  cases r with
  | non => cases h; exact .base .non
  | bl b => cases h; exact .base (.bl b)
  | int i => cases h; exact .base (.int i)
  | str x => cases h; exact .base (.str x)
  | lst h1 _ => cases h; exact .base (.lst h1)
  | tup h1 _ =>
    cases h
    rcases h1 with (h1 | ⟨o, h1⟩) | ⟨o, its, n, h1, h2, _⟩
    · exact .base (.tup h1)
    · exact .fTuple h1
    · exact .kTuple h1 h2
  | dic h1 _ => cases h; exact .base (.dK h1)
  | ins h1 _ => cases h
  | ty n => cases h
  | adr a => cases h
  | exc h1 h2 _ => cases h
theorem TyX.mono {K : PySem.W.Frag} {M : Addr → Bool} {H : Hp} {v : V} {d : D} {a : String} (r : Rep K (hd M H) v d) (h : tyName d = some a) : TyX K H v (.type a) := tyX_of (r.mono (same_hd M H)) h
/-- isinstance of a type and of a tuple of types, on data -/
def isD (d : D) (n : String) : Bool := match tyName d with | some a => isTy a n | none => false
section
variable {K : PySem.W.Frag} {P : D → Prop} {i j : Int} {x y : D} {n : String}
theorem cd_isi {a : String} (hx : tyName x = some a) (hn : n ∈ tyAsk) (p : P (.bl (isD x n))) : CallD K (rIsi K) [x, .ty n] P := fun M H vs Q al r q => by
  cases r with
  | cons r1 r2 =>
    cases r2 with
    | cons r2 r3 =>
      cases r3
      cases r2
      have e : isD x n = isTy a n := by unfold isD; rw [hx]
      exact ⟨_, _, .type a, .type n, isTy a n, rfl, .ty n, TyX.mono r1 hx, kit_ty (kit_isTy (tyName_mem hx) hn), by rw [← e]; exact q _ _ H p (Same.refl H) (.bl _)⟩
/-- the length of data -/
def lenD : D → Option Nat
  | .str z => some z.length | .lst xs => some xs.length | .tup xs => some xs.length | _ => none
theorem cd_len {k : Nat} (h : lenD x = some k) (hz : k ≤ 100000) (p : P (.int (k : Int))) : CallD K (fun xs H Q => ∃ x n, xs = [x] ∧ LenV K x H n ∧ Q (.int (n : Nat)) H) [x] P := fun M H vs Q al r q => by
  cases r with
  | cons r1 r2 =>
    cases r2
    refine ⟨_, k, rfl, ?_, q _ _ H p (Same.refl H) (.int _)⟩
    cases r1 with
    | str z => cases h; exact ⟨sz_of hz, rfl⟩
    | lst h1 h2 => cases h; exact .inl ⟨_, SqL.of (hd_of h1).2, h2.length.symm⟩
    | tup h1 h2 => cases h; exact .inr ⟨_, same_tup (same_hd M H) h1, h2.length.symm⟩
    | _ => cases h
def blD (bs : List Bool) : List D := bs.map .bl
theorem repL_bl {H : Hp} : ∀ {vs : List V} {bs : List Bool}, RepL K H vs (blD bs) → vs = bs.map V.bl
  | _, [], .nil => rfl
  | _, b :: bs, .cons (.bl _) r => by rw [List.map_cons, repL_bl (bs := bs) r]
theorem cd_all {bs : List Bool} (p : P (.bl (bs.all id))) : CallD K (rAll K) [.lst (blD bs)] P := fun M H vs Q al r q => by
  cases r with
  | cons r1 r2 =>
    cases r2
    cases r1 with
    | lst h1 h2 =>
      have e := repL_bl h2
      subst e
      exact ⟨_, bs, rfl, SqL.of (hd_of h1).2, q _ _ H p (Same.refl H) (.bl _)⟩
theorem cd_any {bs : List Bool} (p : P (.bl (bs.any id))) : CallD K (rAny K) [.lst (blD bs)] P := fun M H vs Q al r q => by
  cases r with
  | cons r1 r2 =>
    cases r2
    cases r1 with
    | lst h1 h2 =>
      have e := repL_bl h2
      subst e
      exact ⟨_, bs, rfl, SqL.of (hd_of h1).2, q _ _ H p (Same.refl H) (.bl _)⟩
theorem cd_intI {r : List V → Hp → VK → Prop} (hr : ∀ xs H Q, (∃ i, xs = [V.int i] ∧ Q (.int i) H) → r xs H Q) (p : P (.int i)) : CallD K r [.int i] P := fun M H vs Q al r1 q => by
  cases r1 with
  | cons r1 r2 =>
    cases r2
    cases r1
    exact hr _ _ _ ⟨i, rfl, q _ _ H p (Same.refl H) (.int _)⟩
end
end Pf

namespace PySem
open AutoSeq1 (wpAny_loadPart')
/-! enumerate of a tuple -/
theorem enumT_new (l : Addr) (items : Array Value) (n : Nat) (dct : Option Addr) (sl : Array (Option Value)) :
    Meets (Builtin.«enumerate.__new__» ⟨[.type "enumerate", .ref l], []⟩) (fun _ R s => s.heap.get? l = some { cls := .type "tuple", dict := dct, data := .seq items n, slots := sl } ∧
      R (.ok (.ret (.ref (s.heap.push { cls := .type "tuple_iterator", data := .fields #[.ref l, .int 0 0] }).objs.size)))
        { s with heap := (s.heap.push { cls := .type "tuple_iterator", data := .fields #[.ref l, .int 0 0] }).push { cls := .type "enumerate", data := .fields #[.none, .bool false, .ref s.heap.objs.size, rawInt 0, .none, .none] } }) :=
  .of_wp fun prog w A R s h => by
    obtain ⟨hp, g, d, tk, os⟩ := s; obtain ⟨hl, h⟩ := h
    have hsub := sub_enumerate
    have hL : Heap.IsTuple (Shared.heap ⟨hp, g, d, tk, os⟩) l items := ⟨_, hl, rfl, n, rfl⟩
    wp_walk using wpAny_loadPart' hl
    refine wpAny_stack_any fun st => wpAny_pure ?_
    split
    · rename_i c _ _ _ _ _
      cases (c == Value.type "enumerate")
      · wp_walk using wpAny_loadPart' hl, wpAny_pyIter_tuple hL
        exact ⟨_, rfl, h⟩
      · wp_walk using wpAny_loadPart' hl, wpAny_pyIter_tuple hL
        exact ⟨_, rfl, h⟩
    · wp_walk using wpAny_loadPart' hl, wpAny_pyIter_tuple hL
      exact ⟨_, rfl, h⟩
theorem enumT_call {prog : Program} {w : World} {A : Around} {E : Value → Shared → Prop} {s : Shared} {l : Addr} {items : Array Value} {Q : Value → Shared → Prop} (hL : s.heap.IsTuple l items)
    (h : ∀ h', IsEnum h' (s.heap.objs.size + 1) s.heap.objs.size 0 .none → h'.IsTupleIter s.heap.objs.size l 0 → h'.objs.size = s.heap.objs.size + 2 →
      (∀ b o, s.heap.get? b = some o → h'.get? b = some o) → Q (.ref (s.heap.objs.size + 1)) { s with heap := h' }) :
    wpAny (model prog w) A (call (.type "enumerate") [.ref l]) Q E s := by
  obtain ⟨⟨c, dct, dt, sl⟩, hl, hc, n, hd⟩ := hL
  replace hc : c = .type "tuple" := hc
  replace hd : dt = .seq items n := hd
  subst hc hd
  refine callType_new F.called_enumerate (by decide) (F.typeCall_enumerate_1 _) (F.newCall_enumerate_1 _) (fun obj => F.args_object_init_2 obj _) F.entry_enumerate_new
    (enumT_new l items n dct sl) ⟨hl, ?_⟩
  have hz : (s.heap.push { cls := .type "tuple_iterator", data := .fields #[.ref l, .int 0 0] }).objs.size = s.heap.objs.size + 1 := Heap.size_push ..
  show _ ∧ _
  rw [hz]
  have he : IsEnum ((s.heap.push { cls := .type "tuple_iterator", data := .fields #[.ref l, .int 0 0] }).push
      { cls := .type "enumerate", data := .fields #[.none, .bool false, .ref s.heap.objs.size, rawInt 0, .none, .none] }) (s.heap.objs.size + 1) s.heap.objs.size 0 .none := by
    have := Heap.get?_push_size (s.heap.push { cls := .type "tuple_iterator", data := .fields #[.ref l, .int 0 0] })
      (o := { cls := .type "enumerate", data := .fields #[.none, .bool false, .ref s.heap.objs.size, rawInt 0, .none, .none] }) rfl
    rw [hz] at this; exact this
  refine ⟨⟨_, he, rfl⟩, h _ he ⟨_, Heap.get?_push_of_some _ (Heap.get?_push_size _ rfl), rfl, rfl⟩ (by rw [Heap.size_push, hz]) fun b o x => Heap.get?_push_of_some _ (Heap.get?_push_of_some _ x)⟩
theorem enumT_end {prog : Program} {w : World} {A : Around} {E : Value → Shared → Prop} {s : Shared} {e it l : Addr} {i : Nat} {items : Array Value} {old : Value} {Q : Option Value → Shared → Prop} (hh : A.handled = none)
    (he : IsEnum s.heap e it i old) (hit : s.heap.IsTupleIter it l i) (hl : s.heap.IsTuple l items) (hx : items[i]? = none)
    (hQ : ∀ h', Heap.ExtBut it s.heap h' → Q none { s with heap := h' }) : wpAny (model prog w) A (pyNext (.ref e)) Q E s := by
  have hT : s.TypeIs (.ref e) "enumerate" := ⟨_, he, rfl⟩
  unfold pyNext
  refine wpAny_bind (wpAny_attempt (wpAny_callSpecial?_slot (name := Str.ofString "__next__") hT F.slot_enumerate_next
    (wpAny_call_entry F.slot_enumerate_next hT F.entry_enumerate_next ?_ (F.args_enumerate_next_1 _))))
  show wpAny _ _ (field (.ref e) 2 >>= _) _ _ _
  refine wpAny_bind (wpAny_field he rfl (x := .ref it) rfl ?_)
  refine wpAny_bind (wpAny_nextOf_tuple_end hh hit hl hx fun h' x he' hx' => ?_)
  obtain ⟨o, ho, hc⟩ := hx'
  refine wpAny_bind (wpAny_isInstance (T := "StopIteration") (b := true) ⟨o, ho, hc⟩ isSubtype_stop ?_)
  exact wpAny_pure (hQ _ he')
end PySem
namespace Pf
open PySem L2 RZ PySem.Spec PyProof.Rows
/-- the tuple at a, each item in a new pair with its number -/
def IteT (K : PySem.W.Frag) (a : Addr) : It :=
  ⟨fun i H => ∃ (xs : List V) (x : V), SqT K H a xs ∧ xs[i]? = some x, fun i H v H' => ∃ T x, v = .ref T ∧ H T = none ∧ H' = upd H T (.tup [.int (i : Nat), x]) ∧ ∀ xs, SqT K H a xs → xs[i]? = some x, fun i H => ∃ xs : List V, SqT K H a xs ∧ xs.length ≤ i⟩
theorem turn_enumT {P : Program} {w : World} {K : PySem.W.Frag} {elts : List Expr} {kk : Nat} {tpos : Pos} (a e it : Addr) (hai : a ≠ it) (hae : a ≠ e) :
    Turn P w K (.Tuple elts kk tpos) (IteT K a) [e, it] e (fun i h => (∃ old, IsEnum h e it ((i : Nat) : Int) old) ∧ h.IsTupleIter it a i ∧ e ≠ it) where
  mem := by simp
  obj := fun i h st b hb => by
    obtain ⟨⟨old, he⟩, ⟨o, ho, hc, hd⟩, _⟩ := st
    have e' : b = e ∨ b = it := by simpa using hb
    rcases e' with z | z
    · rw [z]; exact ⟨_, he, fun v q => nomatch q⟩
    · rw [z]; exact ⟨o, ho, fun v q => by rw [hd] at q; cases q⟩
  keep := fun i h h' st k => let ⟨⟨old, he⟩, hi, hne⟩ := st; ⟨⟨old, k e (by simp) _ he⟩, hi.at fun o q => k it (by simp) o q, hne⟩
  item := by
    intro X hP hw hK hc i pins s σ H E I hf st hg
    subst hP hw hK
    obtain ⟨⟨old, he⟩, hit, hne⟩ := st
    obtain ⟨xs, x, hq, hx⟩ := hg
    obtain ⟨its, rv, p, hz⟩ := I.tuple hq
    obtain ⟨u, hu, ru⟩ := rv.get hx
    have hlt : i < its.toArray.size := by
      have := (List.getElem?_eq_some_iff.mp hu).1
      simpa using this
    have hel : e < s.heap.objs.size := Heap.lt_size he
    have hil : it < s.heap.objs.size := by obtain ⟨_, q, _⟩ := hit; exact Heap.lt_size q
    refine wpAny_pyNext_enum_itemC (Draws.tuple (A := X.A.in1) (show X.A.in1.handled = none from I.ok.hd hc) it a hai its.toArray) he (i := i) ⟨hit, p⟩ hlt hne (by simp only [List.mem_cons, List.not_mem_nil, or_false, not_or]; exact ⟨hne, Ne.symm hae⟩) fun x' h' tk hx' ho hst' hT hsz hk => ?_
    have ex : x' = u := by
      have : its.toArray[i]? = some u := by simpa using hu
      exact Option.some.inj (hx'.symm.trans this)
    subst ex
    refine ⟨_, rfl, wpAny_letOwnedTupleGo_enum (s := { s with heap := h', toks := tk + 1 }) ho fun h'' he' sb => ?_⟩
    have hT2 : h''.get? s.heap.objs.size = some { cls := .type "tuple", data := .seq #[.int i tk, x'] } := (sb.2 _ (Nat.ne_of_gt hel)).trans hT
    have new : ObjOk X.prog X.w (upd H s.heap.objs.size (.tup [.int (i : Nat), x])) h'' s.heap.objs.size (.tup [.int (i : Nat), x]) :=
      ⟨by show 2 ≤ sizeLine; decide, [.int i tk, x'], .cons ⟨_, rfl⟩ (.cons ru .nil), ⟨_, hT2, rfl, _, rfl⟩⟩
    have I1 : Inv X pins σ (upd H s.heap.objs.size (.tup [.int (i : Nat), x])) { s with heap := h'', toks := tk + 1 } :=
      I.turnedNew (ch := [e, it]) (fun b ob hb q => (sb.2 b (fun z => hb (by simp [z]))).trans (hk b ob (fun z => hb (by simp [z])) (fun z => hb (by simp [z])) q)) hf (Nat.le_refl _) new
    refine ⟨.ref s.heap.objs.size, _, I1, rfl, ⟨_, x, rfl, I.hok.fresh (Nat.le_refl _), rfl, fun ys hy => by rw [I.tuple_inj hy hq]; exact hx⟩, ⟨⟨x', ?_⟩, hst'.1.at fun o q => (sb.2 it (Ne.symm hne)).trans q, hne⟩, fun b hb => ?_⟩
    · have e1 : ((i + 1 : Nat) : Int) = (i : Int) + 1 := by omega
      rw [e1]; exact he'
    · have hb' : b < s.heap.objs.size := by
        have e' : b = e ∨ b = it := by simpa using hb
        rcases e' with z | z
        · rw [z]; exact hel
        · rw [z]; exact hil
      rw [upd_ne (Nat.ne_of_lt hb')]
      exact (hf b hb).1
  done := by
    intro X hP hw hK hc i pins s σ H E I hf st hg
    subst hP hw hK
    obtain ⟨⟨old, he⟩, hit, hne⟩ := st
    obtain ⟨xs, hq, hx⟩ := hg
    obtain ⟨its, rv, p, hz⟩ := I.tuple hq
    obtain ⟨f0, f1, f2, f3, f4, f5⟩ := hf it (by simp)
    have hl := rv.length
    have hno : its.toArray[i]? = none := by simp; omega
    exact enumT_end (I.ok.hd hc) he hit p hno fun h' eb => ⟨rfl, I.turned (t' := s.toks) (fun b o hb q => eb b o hb q) f0 f1 f3 f4 f5⟩
  self := fun A i s Q E st h => let ⟨⟨_, he⟩, _⟩ := st; wpAny_pyIter_enum he h
def iEnumA (K : PySem.W.Frag) (ta : TA) : TI := fun σ H R => ta σ H fun vs H1 => ∃ a xs, vs = [.ref a] ∧ ((SqL K H1 a xs ∧ R (Ite K a) H1) ∨ (SqT K H1 a xs ∧ R (IteT K a) H1))
theorem pi_enumA {X : Cx} {e : Expr} {ta : TA} {p pos tpos : Pos} {elts : List Expr} {kk : Nat} (K : PySem.W.Frag) (hg : Gl X "enumerate") (hm : X.mg "enumerate" = none) (ha : PA X [e] ta) (hs : starEach [e] X.env = [(false, eval e X.env)] := by rfl) (hK : X.K = K := by rfl) :
    PI X (.Tuple elts kk tpos) (.Call (.Name "enumerate" p) [e] [] pos) (iEnumA K ta) := by
  subst hK
  refine ⟨fun pins s σ H R I h => ?_⟩
  refine Call_ (ld_blt I hg hm boot_enumerate (PyProof.Rows.callWith_type1 (thn (ha.run pos pins s σ H _ I h) fun us s1 ⟨vs, H1, I1, r1, q1⟩ => ?_) hs rfl))
  obtain ⟨a, xs, ex, q1⟩ := q1
  subst ex
  cases r1 with
  | cons r rr =>
    cases rr
    cases r
    have hle : ∀ b ∈ [s1.heap.objs.size + 1, s1.heap.objs.size], s1.heap.objs.size ≤ b := fun b hb => by
      have e' : b = s1.heap.objs.size + 1 ∨ b = s1.heap.objs.size := by simpa using hb
      rcases e' with z | z
      · rw [z]; exact Nat.le_add_right _ _
      · rw [z]; exact Nat.le_refl _
    rcases q1 with ⟨hq, q⟩ | ⟨hq, q⟩
    · obtain ⟨its, rv, p', hz⟩ := I1.list hq
      refine call_enumerate_list p'.isList fun h' he hit hsz hk => wpAny_pyIter_enum he ?_
      have I2 : Inv X pins σ H1 { s1 with heap := h' } := I1.kept (t' := s1.toks) hk
      exact ⟨s1.heap.objs.size + 1, [s1.heap.objs.size + 1, s1.heap.objs.size], _, _, H1, rfl, I2, turn_enum a (s1.heap.objs.size + 1) s1.heap.objs.size, ⟨⟨.none, he⟩, hit, Nat.succ_ne_self _⟩, fun b hb => I1.fpOk (hle b hb) (I1.hok.fresh (hle b hb)), q⟩
    · obtain ⟨its, rv, p', hz⟩ := I1.tuple hq
      refine enumT_call p' fun h' he hit hsz hk => wpAny_pyIter_enum he ?_
      have I2 : Inv X pins σ H1 { s1 with heap := h' } := I1.kept (t' := s1.toks) hk
      have hal : a < s1.heap.objs.size := by obtain ⟨o, ho, _⟩ := p'; exact Heap.lt_size ho
      exact ⟨s1.heap.objs.size + 1, [s1.heap.objs.size + 1, s1.heap.objs.size], _, _, H1, rfl, I2, turn_enumT a (s1.heap.objs.size + 1) s1.heap.objs.size (Nat.ne_of_lt hal) (Nat.ne_of_lt (Nat.lt_succ_of_lt hal)), ⟨⟨.none, he⟩, hit, Nat.succ_ne_self _⟩, fun b hb => I1.fpOk (hle b hb) (I1.hok.fresh (hle b hb)), q⟩
theorem walk_enumT {K : PySem.W.Frag} {a : Addr} {xs : List V} : Walk (IteT K a) xs.length (fun H => SqT K H a xs) (YPair (fun i => some (.int (i : Nat))) (fun i => xs[i]?)) := by
  refine ⟨fun i _ hi q => ⟨xs, xs[i], q, by simp [hi]⟩, fun _ q => ⟨xs, q, Nat.le_refl _⟩, fun i H v H' _ q y => ?_⟩
  obtain ⟨T, x, h1, h2, h3, h4⟩ := y
  exact ⟨T, .int (i : Nat), x, h1, h2, h3, rfl, h4 xs q⟩
/-! a sequence that is borrowed -/
theorem numbered_get {xs : List D} {i : Nat} {f : D} (e3 : xs[i]? = some f) : (numbered xs)[i]? = some (.tup [.int (i : Nat), f]) := by
  have hi := (List.getElem?_eq_some_iff.mp e3).1
  unfold numbered
  rw [List.getElem?_map, List.getElem?_range hi]
  show some (D.tup [.int (i : Nat), xs.getD i .non]) = _
  rw [show xs.getD i .non = f by simp [List.getD, e3]]
theorem numbered_len {xs : List D} : (numbered xs).length = xs.length := by simp [numbered]
theorem seq_keep {K : PySem.W.Frag} {H H' : Hp} {p : Addr} {vs : List V} {B : Addr → Prop} (e : StepB B H H') (hb : ¬ B p) (h : SqL K H p vs ∨ SqT K H p vs) : SqL K H' p vs ∨ SqT K H' p vs := by
  rcases h with ((h | ⟨o, h⟩) | h) | ((h | ⟨o, h⟩) | h)
  · exact .inl (.inl (.inl (e _ _ hb h)))
  · exact .inl (.inl (.inr ⟨o, e _ _ hb h⟩))
  · exact .inl (.inr h)
  · exact .inr (.inl (.inl (e _ _ hb h)))
  · exact .inr (.inl (.inr ⟨o, e _ _ hb h⟩))
  · exact .inr (.inr h)
section
variable {F : Fm} {δ : List SD} {M : Addr → Bool} {σ : L2.St} {H : Hp} {PX : List D → Prop} {ta : TA} {te : TE} {P : D → Prop}
theorem Ctx.getSq (c : Ctx F M σ H δ) {i : Nat} {ds : List D} (h : δ[i]? = some (.sq ds)) : ∃ p vs, σ[i]? = some (some (.ref p)) ∧ (SqL F.K H p vs ∨ SqT F.K H p vs) ∧ RepL F.K (hd M H) vs ds ∧
    ∀ H', StepB F.mv F.H0 H' → (SqL F.K H' p vs ∨ SqT F.K H' p vs) := by
  obtain ⟨s, h1, p, vs, h2, h3, h4, h5⟩ := c.sl i _ h
  subst h2
  exact ⟨p, vs, h1, seq_keep c.fr h3 h4, h5, fun H' e => seq_keep e h3 h4⟩
end
end Pf

namespace Pf
open PySem L2 RZ PySem.Spec PyProof.Rows PySem.W PySem.Calls
/-! ### sorted of a list or a tuple of alike data -/
theorem sortS_core {prog : Program} {w : World} {A : Around} {E : Value → Shared → Prop} {s : Shared} {β : Type} {vs : List Value} {bs : List β} {enc : β → PyData} {R : Value → β → Prop} {l : Addr} {T : String} {o : Obj} {n : Nat} {Q : Value → Shared → Prop}
    (hT : T = "list" ∨ T = "tuple") (ho : s.heap.get? l = some o) (hc : o.cls = .type T) (hd : o.data = .seq vs.toArray n) (e : EachIs R vs bs) (er : EachIs (fun v b => ∃ as, Reads s.heap v (enc b) as) vs bs) (hal : AllAlike (bs.map enc)) (hk : Sortable (bs.map enc)) (hL : bs.length ≤ sizeLine)
    (hu : ∀ b, b ∈ bs → A.units + 2 + (enc b).depth < cLine)
    (h : ∀ (h1 h2 : Heap) (out : List Value) (ep : Nat), (∀ b o, s.heap.get? b = some o → h1.get? b = some o) → (∀ b o, h1.get? b = some o → h2.get? b = some o) → out.length = bs.length → EachIs R out (bs.mergeSort (dataLe false enc)) →
      h2.get? h1.objs.size = some (seqObj "list" out.toArray ep) → Q (.ref h1.objs.size) { s with heap := h2 }) :
    wpAny (model prog w) A (call (.builtin "sorted") [.ref l]) Q E s := by
  have hlen : vs.length = bs.length := e.length
  refine call_function_entry_kw kind_sorted plain_sorted entry_sorted (args_sorted1 _) ?_
  unfold Builtin.«sorted»
  refine wpAny_bind (m := checkCount "sorted" 1 1 _) (wpAny_pure ?_)
  refine wpAny_bind (wpAny_collect_seq l hT ho hc hd (fun h1 k1 => ?_) (by rw [List.size_toArray, hlen]; exact hL))
  have evs : vs.toArray.toList = vs := by simp
  rw [evs]
  refine wpAny_bind (wpAny_newList ?_ (by rw [hlen]; exact hL))
  have hat : (h1.push (seqObj "list" vs.toArray 0)).get? h1.objs.size = some (seqObj "list" vs.toArray 0) := Heap.get?_push_size _ rfl
  have kp : ∀ b o, h1.get? b = some o → (h1.push (seqObj "list" vs.toArray 0)).get? b = some o := fun b o q => Heap.get?_push_of_some _ q
  show wpAny _ _ _ _ _ { s with heap := h1.push (seqObj "list" vs.toArray 0) }
  refine wpAny_bind (wpAny_holding (wpAny_call_entry_kw slot_list_sort ⟨_, hat, rfl⟩ entry_list_sort ?body (args_list_sort _)))
  case body =>
    show wpAny (model prog w) A.in1.in1 (Builtin.«list.sort» ⟨[.ref h1.objs.size], []⟩) _ _ _
    have old : ∀ b o, h1.get? b = some o → (sortingHeap (h1.push (seqObj "list" vs.toArray 0)) h1.objs.size vs).get? b = some o := fun b o q =>
      sortingHeap_old (Nat.ne_of_lt (Heap.lt_size q)) (kp b o q)
    have er' : EachIs (fun v b => ∃ as, Reads (sortingHeap (h1.push (seqObj "list" vs.toArray 0)) h1.objs.size vs) v (enc b) as) vs bs := er.mono fun _ _ ⟨as, r⟩ => ⟨as, PyProof.Rows.Reads.keeps (fun b o q => old b o (k1 b o q)) r⟩
    refine list_sort_vals (κ := dataKind (sortingHeap (h1.push (seqObj "list" vs.toArray 0)) h1.objs.size vs) (bs.map enc)) (s := { s with heap := h1.push (seqObj "list" vs.toArray 0) }) hat (SortsAt.data (s := { s with heap := sortingHeap (h1.push (seqObj "list" vs.toArray 0)) h1.objs.size vs }) (each_map (R := fun v d => ∃ as, Reads (sortingHeap (h1.push (seqObj "list" vs.toArray 0)) h1.objs.size vs) v d as) enc er') hal hk (bound_map hu)) (by rw [hlen]; exact hL) ?_
    obtain ⟨ep, h3⟩ := sortedHeap_at (a := h1.objs.size) (vs := vs) (out := (sortVals (dataKind (sortingHeap (h1.push (seqObj "list" vs.toArray 0)) h1.objs.size vs) (bs.map enc)) false vs vs).toArray) hat
    refine ⟨_, rfl, wpAny_pure ⟨_, rfl, h h1 _ _ ep k1 (fun b o q => ?_) (by rw [sortVals_length false rfl]; exact hlen) (sortVals_data false e er' hal) h3⟩⟩
    have hlt := Heap.lt_size q
    exact sortedHeap_old (Nat.ne_of_lt hlt) (by rw [Heap.size_push]; exact Nat.lt_succ_of_lt hlt) |>.trans (kp b o q)
/-! as a rule of the layer -/
def rSortA (K : PySem.W.Frag) : List V → Hp → VK → Prop := fun vs H Q => ∃ (a : Addr) (xs : List V) (ps : List PyData), vs = [.ref a] ∧ (SqL K H a xs ∨ SqT K H a xs) ∧ DpAll K H xs ps ∧ AllAlike ps ∧ PySem.W.Sortable ps ∧ (∀ d ∈ ps, d.depth ≤ 60) ∧
  ∀ p, H p = none → Q (.ref p) (upd H p (.lst (((xs.zip ps).mergeSort (dataLe false Prod.snd)).map Prod.fst)))
theorem dpAll_len {K : PySem.W.Frag} {H : Hp} : ∀ {xs : List V} {ps : List PyData}, DpAll K H xs ps → xs.length = ps.length
  | _, _, .nil => rfl
  | _, _, .cons _ r => congrArg Nat.succ (dpAll_len r)
theorem each_zip : ∀ {xs : List V} {us : List Value} {ps : List PyData}, Vals xs us → xs.length = ps.length → EachIs (fun u (b : V × PyData) => RelV b.1 u) us (xs.zip ps)
  | _, _, [], .nil, _ => .nil
  | _, _, p :: ps, .nil, h => by cases h
  | _, _, [], .cons _ _, h => by cases h
  | _, _, p :: ps, .cons r rs, h => .cons r (each_zip rs (Nat.succ.inj h))
theorem vals_each : ∀ {us : List Value} {bs : List (V × PyData)}, EachIs (fun u (b : V × PyData) => RelV b.1 u) us bs → Vals (bs.map Prod.fst) us
  | _, _, .nil => .nil
  | _, _, .cons r rs => .cons r (vals_each rs)
theorem each_reads {X : Cx} {pins : List (Addr × Obj)} {σ : L2.St} {H : Hp} {s : Shared} (I : Inv X pins σ H s) : ∀ {xs : List V} {us : List Value} {ps : List PyData}, DpAll X.K H xs ps → Vals xs us → EachIs (fun u (b : V × PyData) => ∃ as, Reads s.heap u b.2 as) us (xs.zip ps)
  | _, _, _, .nil, .nil => .nil
  | _, _, _, .cons d ds, .cons r rs => .cons (Dp.reads I _ _ _ d r) (each_reads I ds rs)
theorem zip_snd {α β : Type} : ∀ {xs : List α} {ps : List β}, xs.length = ps.length → (xs.zip ps).map Prod.snd = ps
  | [], [], _ => rfl
  | _ :: xs, _ :: ps, h => by rw [List.zip_cons_cons, List.map_cons, zip_snd (Nat.succ.inj h)]
theorem cr_sortA {X : Cx} (K : PySem.W.Frag) (hu : X.A.units + 64 < cLine) (hK : X.K = K := by rfl) : CallR X (.builtin "sorted") (rSortA K) := by
  subst hK
  intro pins s σ H vs us Q I r h
  obtain ⟨a, xs, ps, rfl, hs, hp, hal, hso, hdp, q⟩ := h
  obtain ⟨u, rfl, ru⟩ := vals1 r
  obtain rfl : u = Value.ref a := ru
  have hl := dpAll_len hp
  have key : ∀ (T : String) (o : Obj) (n : Nat) (its : List Value), (T = "list" ∨ T = "tuple") → s.heap.get? a = some o → o.cls = .type T → o.data = .seq its.toArray n → Vals xs its → xs.length ≤ sizeLine → wpAny (model X.prog X.w) X.A (call (.builtin "sorted") [.ref a]) (EP X pins σ Q) X.xe s := by
    intro T o n its hT ho hc hd rv hz
    refine sortS_core (β := V × PyData) (enc := Prod.snd) (R := fun u b => RelV b.1 u) (bs := xs.zip ps) hT ho hc hd (each_zip rv hl) (each_reads I hp rv) (by rw [zip_snd hl]; exact hal) (by rw [zip_snd hl]; exact hso)
      (by rw [List.length_zip, hl, Nat.min_self, ← hl]; exact hz) (fun b hb => ?_) fun h1 h2 out ep k1 k2 hlen eo hnew => ?_
    · have hm : b.2 ∈ ps := by
        have := List.mem_map_of_mem (f := Prod.snd) hb
        rw [zip_snd hl] at this
        exact this
      have := hdp _ hm
      omega
    · have I1 : Inv X pins σ H { s with heap := h1 } := I.kept (t' := s.toks) k1
      have hv := vals_each eo
      have hlen2 : (((xs.zip ps).mergeSort (dataLe false Prod.snd)).map Prod.fst).length ≤ sizeLine := by
        rw [List.length_map, List.length_mergeSort, List.length_zip, hl, Nat.min_self, ← hl]
        exact hz
      exact ⟨.ref _, upd H h1.objs.size (.lst (((xs.zip ps).mergeSort (dataLe false Prod.snd)).map Prod.fst)), I1.laid (t' := s.toks) k2 (Nat.le_refl _) ⟨hlen2, out, ep, hv, hnew⟩, rfl, q _ (I1.hok.fresh (Nat.le_refl _))⟩
  rcases hs with hs | hs
  · obtain ⟨its, rv, ⟨o, n, ho, hc, _, hd⟩, hz⟩ := I.list hs
    exact key "list" o n its (.inl rfl) ho hc hd rv hz
  · obtain ⟨its, rv, ⟨o, ho, hc, n, hd⟩, hz⟩ := I.tuple hs
    exact key "tuple" o n its (.inr rfl) ho hc hd rv hz
/-! data as the library tells it -/
mutual
def pyd : D → PyData
  | .bl b => .bool b | .int i => .int i | .str x => .str x
  | .lst xs => .list (pydL xs) | .tup xs => .tuple (pydL xs)
  | _ => .none
def pydL : List D → List PyData
  | [] => []
  | x :: xs => pyd x :: pydL xs
end
mutual
/-- none, bools, ints, texts, lists and tuples of these -/
def plainD : D → Bool
  | .non => true | .bl _ => true | .int _ => true | .str _ => true
  | .lst xs => plainL xs | .tup xs => plainL xs
  | _ => false
def plainL : List D → Bool
  | [] => true
  | x :: xs => plainD x && plainL xs
end
theorem pydL_map : ∀ xs : List D, pydL xs = xs.map pyd
  | [] => by simp only [pydL, List.map_nil]
  | x :: xs => by simp only [pydL, List.map_cons, pydL_map xs]
mutual
theorem rep_dp {K : PySem.W.Frag} {H : Hp} : ∀ {v : V} {d : D}, Rep K H v d → plainD d = true → Dp K H v (pyd d)
  | _, _, .non, _ => by simp only [pyd]; exact .non
  | _, _, .bl b, _ => by simp only [pyd]; exact .bl b
  | _, _, .int i, _ => by simp only [pyd]; exact .int i
  | _, _, .str x, _ => by simp only [pyd]; exact .str x
  | _, _, .lst h r, p => by
    simp only [pyd]
    simp only [plainD] at p
    exact .lst (SqL.of h) (repL_dp r p)
  | _, _, .tup h r, p => by
    simp only [pyd]
    simp only [plainD] at p
    exact .tup h (repL_dp r p)
  | _, _, .dic _ _, p => by simp [plainD] at p
  | _, _, .ins _ _, p => by simp [plainD] at p
  | _, _, .ty _, p => by simp [plainD] at p
  | _, _, .adr _, p => by simp [plainD] at p
  | _, _, .exc _ _ _, p => by simp [plainD] at p
theorem repL_dp {K : PySem.W.Frag} {H : Hp} : ∀ {v : List V} {d : List D}, RepL K H v d → plainL d = true → DpAll K H v (pydL d)
  | _, _, .nil, _ => by simp only [pydL]; exact .nil
  | _, _, .cons h r, p => by
    simp only [pydL]
    simp only [plainL, Bool.and_eq_true] at p
    exact .cons (rep_dp h p.1) (repL_dp r p.2)
end
/-- the one order that sorted gives -/
def sortD (ds : List D) : List D := ds.mergeSort (dataLe false pyd)
structure SortOk (ds : List D) : Prop where
  pl : plainL ds = true
  al : AllAlike (ds.map pyd)
  so : PySem.W.Sortable (ds.map pyd)
  dp : ∀ d ∈ ds, (pyd d).depth ≤ 60
theorem repL_zip {K : PySem.W.Frag} {H : Hp} {xs : List V} {ds : List D} (r : RepL K H xs ds) : ∀ p ∈ xs.zip ds, Rep K H p.1 p.2 := by
  induction xs generalizing ds with
  | nil =>
    intro p hp
    simp at hp
  | cons x xs ih =>
    cases r with
    | cons h r =>
      intro p hp
      rw [List.zip_cons_cons] at hp
      rcases List.mem_cons.mp hp with e | hp
      · subst e
        exact h
      · exact ih r p hp
theorem repL_of_pairs {K : PySem.W.Frag} {H : Hp} : ∀ {L : List (V × D)}, (∀ p ∈ L, Rep K H p.1 p.2) → RepL K H (L.map Prod.fst) (L.map Prod.snd)
  | [], _ => .nil
  | p :: L, h => .cons (h p (by simp)) (repL_of_pairs fun q hq => h q (List.mem_cons_of_mem _ hq))
theorem repL_sort {K : PySem.W.Frag} {H : Hp} {xs : List V} {ds : List D} (r : RepL K H xs ds) : RepL K H (((xs.zip (ds.map pyd)).mergeSort (dataLe false Prod.snd)).map Prod.fst) (sortD ds) := by
  have e1 : xs.zip (ds.map pyd) = (xs.zip ds).map fun p => (p.1, pyd p.2) := by
    rw [List.zip_map_right]
    rfl
  have e2 : ((xs.zip ds).mergeSort (dataLe false fun p : V × D => pyd p.2)).map (fun p => (p.1, pyd p.2)) = ((xs.zip ds).map fun p => (p.1, pyd p.2)).mergeSort (dataLe false Prod.snd) :=
    sort_maps _ fun a _ b _ => rfl
  have e3 : ((xs.zip ds).mergeSort (dataLe false fun p : V × D => pyd p.2)).map Prod.snd = ((xs.zip ds).map Prod.snd).mergeSort (dataLe false pyd) :=
    sort_maps _ fun a _ b _ => rfl
  rw [e1, ← e2, List.map_map]
  rw [zip_snd r.length] at e3
  unfold sortD
  rw [← e3]
  exact repL_of_pairs fun p hp => repL_zip r p ((List.mergeSort_perm _ _).mem_iff.mp hp)
section
variable {F : Fm} {δ : List SD} {te : TE} {PL : List D → Prop}
theorem en_sorted (h : Ev F te δ fun d => ∃ xs, (d = .lst xs ∨ d = .tup xs) ∧ SortOk xs ∧ PL (sortD xs)) : EvN F (tCB (rSortA F.K) (tCons te tNil)) δ PL := fun M σ H Q c q =>
  h M σ H _ c fun v d H1 p c1 e1 r => by
    obtain ⟨xs, hd', ok, pz⟩ := p
    have key : ∀ (a : Addr) (vs : List V), (SqL F.K H1 a vs ∨ SqT F.K H1 a vs) → RepL F.K (hd M H1) vs xs → rSortA F.K [.ref a] H1 Q := fun a vs hs hr => by
      refine ⟨a, vs, xs.map pyd, rfl, hs, ?_, ok.al, ok.so, fun d hd => ?_, fun p hp => ?_⟩
      · rw [← pydL_map]
        exact repL_dp (hr.mono (same_hd M H1)) ok.pl
      · obtain ⟨x, hx, rfl⟩ := List.mem_map.mp hd
        exact ok.dp x hx
      have hp0 : H p = none := by
        cases z : H p with
        | none => rfl
        | some o =>
          have := e1 p o (c1.nob hp) z
          rw [hp] at this
          cases this
      refine q p _ (sortD xs) _ pz (c1.hide hp) hp0 (c1.h0 hp) (c1.nob hp) (c1.nown hp) (e1.trans (StepB.of (same_new hp))) upd_same ((repL_sort hr).mono fun b u e => ?_)
      obtain ⟨m, h⟩ := hd_of e
      have n : b ≠ p := ne_of_none h hp
      exact hd_at (by rw [hid_ne n]; exact m) (by rw [upd_ne n]; exact h)
    rcases hd' with rfl | rfl
    · cases r with
      | lst h1 h2 => exact key _ _ (.inl (SqL.of (hd_of h1).2)) h2
    · cases r with
      | tup h1 h2 => exact key _ _ (.inr (same_tup (same_hd M H1) h1)) h2
theorem en_sortedSq {i : Nat} {xs : List D} (hi : δ[i]? = some (.sq xs)) (ok : SortOk xs) (pz : PL (sortD xs)) : EvN F (tCB (rSortA F.K) (tCons (tVar i) tNil)) δ PL := fun M σ H Q c q => by
  obtain ⟨a, vs, h1, hs, hr, _⟩ := c.getSq hi
  refine ⟨_, h1, a, vs, xs.map pyd, rfl, hs, ?_, ok.al, ok.so, fun d hd => ?_, fun p hp => ?_⟩
  · rw [← pydL_map]
    exact repL_dp (hr.mono (same_hd M H)) ok.pl
  · obtain ⟨x, hx, rfl⟩ := List.mem_map.mp hd
    exact ok.dp x hx
  · refine q p _ (sortD xs) _ pz (c.hide hp) hp (c.h0 hp) (c.nob hp) (c.nown hp) (StepB.of (same_new hp)) upd_same ((repL_sort hr).mono fun b u e => ?_)
    obtain ⟨m, h⟩ := hd_of e
    have n : b ≠ p := ne_of_none h hp
    exact hd_at (by rw [hid_ne n]; exact m) (by rw [upd_ne n]; exact h)
end
end Pf

namespace Pf
open PySem L2 RZ PySem.Spec PyProof.Rows
/-! ### dicts -/
def valD (kvs : List (Key × D)) (k : Key) : Option D := (kvs.find? fun kv => decide (kv.1 = k)).map (·.2)
def putD (kvs : List (Key × D)) (k : Key) (v : D) : List (Key × D) :=
  if (kvs.any fun kv => decide (kv.1 = k)) = true then kvs.map (fun kv => if kv.1 = k then (kv.1, v) else kv) else kvs ++ [(k, v)]
section
variable {K : PySem.W.Frag} {H : Hp}
theorem RepK.val : ∀ {vs : List (Key × V)} {ds : List (Key × D)} (k : Key), RepK K H vs ds → (valD ds k = none → valV vs k = none) ∧ ∀ d, valD ds k = some d → ∃ v, valV vs k = some v ∧ Rep K H v d
  | _, _, k, .nil => ⟨fun _ => rfl, fun d h => by simp [valD] at h⟩
  | _, _, k, .cons (k := k0) (v := v0) (vs := vs) (d := d0) (ds := ds) h r => by
    by_cases e : k0 = k
    · subst e
      refine ⟨fun h => by simp [valD] at h, fun d hd => ⟨v0, by simp [valV], ?_⟩⟩
      have : d0 = d := by simpa [valD] using hd
      rw [← this]
      exact h
    · have e1 : valV ((k0, v0) :: vs) k = valV vs k := by simp [valV, List.find?_cons, e]
      have e2 : valD ((k0, d0) :: ds) k = valD ds k := by simp [valD, List.find?_cons, e]
      rw [e1, e2]
      exact RepK.val k r
theorem RepK.any : ∀ {vs : List (Key × V)} {ds : List (Key × D)} (k : Key), RepK K H vs ds → (vs.any fun kv => decide (kv.1 = k)) = (ds.any fun kv => decide (kv.1 = k))
  | _, _, k, .nil => rfl
  | _, _, k, .cons h r => by rw [List.any_cons, List.any_cons, RepK.any k r]
theorem RepK.length : ∀ {vs : List (Key × V)} {ds : List (Key × D)}, RepK K H vs ds → vs.length = ds.length
  | _, _, .nil => rfl
  | _, _, .cons _ r => congrArg Nat.succ (RepK.length r)
theorem RepK.snoc : ∀ {vs : List (Key × V)} {ds : List (Key × D)} {k : Key} {v : V} {d : D}, RepK K H vs ds → Rep K H v d → RepK K H (vs ++ [(k, v)]) (ds ++ [(k, d)])
  | _, _, k, v, d, .nil, h => .cons h .nil
  | _, _, k, v, d, .cons h0 r, h => .cons h0 (RepK.snoc r h)
theorem RepK.repl : ∀ {vs : List (Key × V)} {ds : List (Key × D)} (k : Key) {v : V} {d : D}, RepK K H vs ds → Rep K H v d → RepK K H (vs.map fun kv => if kv.1 = k then (kv.1, v) else kv) (ds.map fun kv => if kv.1 = k then (kv.1, d) else kv)
  | _, _, k, v, d, .nil, h => .nil
  | _, _, k, v, d, .cons (k := k0) h0 r, h => by
    rw [List.map_cons, List.map_cons]
    by_cases e : k0 = k
    · simp only [e, if_true]
      exact .cons h (RepK.repl k r h)
    · simp only [e, if_false]
      exact .cons h0 (RepK.repl k r h)
theorem RepK.put {vs : List (Key × V)} {ds : List (Key × D)} {k : Key} {v : V} {d : D} (r : RepK K H vs ds) (h : Rep K H v d) : RepK K H (putK vs k v) (putD ds k d) := by
  unfold putK putD
  rw [RepK.any k r]
  by_cases e : (ds.any fun kv => decide (kv.1 = k)) = true
  · rw [if_pos e, if_pos e]
    exact RepK.repl k r h
  · rw [if_neg e, if_neg e]
    exact RepK.snoc r h
end
/-- a key as data -/
def kD : Key → D
  | .inl i => .int i
  | .inr x => .str x
theorem rep_key {K : PySem.W.Frag} {H : Hp} {k : Key} {v : V} (r : Rep K H v (kD k)) : v = kV k := by
  cases k with
  | inl i => cases r; rfl
  | inr x => cases r; rfl
theorem putD_len {kvs : List (Key × D)} {k : Key} {d : D} : (putD kvs k d).length ≤ kvs.length + 1 := by
  unfold putD
  split
  · rw [List.length_map]; omega
  · rw [List.length_append]; simp
theorem putD_new {kvs : List (Key × D)} {k : Key} {d : D} (h : valD kvs k = none) : putD kvs k d = kvs ++ [(k, d)] := by
  unfold putD
  rw [if_neg]
  intro e
  obtain ⟨p, hp, e⟩ := List.any_eq_true.mp e
  have : kvs.find? (fun kv => decide (kv.1 = k)) = none := by
    unfold valD at h
    exact Option.map_eq_none_iff.mp h
  exact absurd e (List.find?_eq_none.mp this p hp)
section
variable {F : Fm} {δ : List SD} {te tv td ty : TE} {P : D → Prop} {R : PD} {tt : TT}
theorem do_ownDic {i : Nat} (h : ∀ p, R.nx (δ.set i (.own p (.dic [])))) : Do F (tAsg tDNewK (gName i)) δ R := fun M σ H E c a b k d => by
  intro p hp
  refine a (hid M p) _ _ _ (h p) ((c.hide hp (o := .dK [])).setOwn i hid_same upd_same (.dic .nil) (c.h0 hp) (c.nob hp) fun j es _ => c.nown hp j es) fun x o hx => ?_
  obtain ⟨m, h1⟩ := hd_of hx
  have n : x ≠ p := ne_of_none h1 hp
  exact hd_at (by rw [hid_ne n]; exact m) (by rw [upd_ne n]; exact h1)
theorem do_dput {i : Nat} {p : Addr} {kvs : List (Key × D)} (hi : δ[i]? = some (.own p (.dic kvs))) (hl : kvs.length < 100000) (h : Ev F tv δ fun v => Ev F ty δ fun y => ∃ k, y = kD k ∧ R.nx (δ.set i (.own p (.dic (putD kvs k v))))) :
    Do F (sDPut (tVar i) ty tv) δ R := fun M σ H E c a b k d => by
  refine h M σ H _ c fun v x H1 p1 c1 e1 r1 => ?_
  obtain ⟨s, hs, e, m, ho, hp, rr⟩ := c1.sl i _ hi
  subst e
  refine ⟨_, hs, ?_⟩
  refine p1 M σ H1 _ c1 fun w y H2 p2 c2 e2 r2 => ?_
  obtain ⟨k0, rfl, p2⟩ := p2
  have ew := rep_key r2
  subst ew
  obtain ⟨s', hs', e', m', ho', hp', rr'⟩ := c2.sl i _ hi
  rw [hs] at hs'
  cases hs'
  cases rr' with
  | @dic vs _ rr' =>
    refine ⟨p, _, rfl, .k hp' (by rw [rr'.length]; exact sz_lt hl), ?_⟩
    refine a M σ _ _ p2 (c2.put hi (.dic (rr'.put (r1.mono (hd_step c1 e2))))) ?_
    rw [hd_upd m]
    exact (hd_step c e1).trans (hd_step c1 e2)
/-- k in d, d one's own -/
theorem ev_dinO {i : Nat} {p : Addr} {kvs : List (Key × D)} (hi : δ[i]? = some (.own p (.dic kvs))) (h : Ev F ty δ fun y => ∃ k, y = kD k ∧ P (.bl (valD kvs k).isSome)) : Ev F (tDIn ty (tVar i)) δ P := fun M σ H Q c q =>
  h M σ H _ c fun w y H1 p1 c1 e1 r1 => by
    obtain ⟨k0, rfl, p1⟩ := p1
    have ew := rep_key r1
    subst ew
    obtain ⟨s, hs, e, m, ho, hp, rr⟩ := c1.sl i _ hi
    subst e
    cases rr with
    | @dic vs _ rr =>
      refine ⟨_, hs, p, valV vs k0, rfl, .k hp, ?_⟩
      have e : (valV vs k0).isSome = (valD kvs k0).isSome := by
        obtain ⟨g1, g2⟩ := rr.val k0
        cases z : valD kvs k0 with
        | none => rw [g1 z]; rfl
        | some d =>
          obtain ⟨v, g3, _⟩ := g2 d z
          rw [g3]
          rfl
      rw [e]
      exact q _ _ H1 p1 c1 e1 (.bl _)
/-- k in d -/
theorem ev_din (h : Ev F ty δ fun y => ∃ k, y = kD k ∧ Ev F td δ fun x => ∃ kvs, x = .dic kvs ∧ P (.bl (valD kvs k).isSome)) : Ev F (tDIn ty td) δ P := fun M σ H Q c q =>
  h M σ H _ c fun w y H1 p1 c1 e1 r1 => by
    obtain ⟨k0, rfl, p1⟩ := p1
    have ew := rep_key r1
    subst ew
    refine p1 M σ H1 _ c1 fun u x H2 p2 c2 e2 r2 => ?_
    obtain ⟨kvs, rfl, p2⟩ := p2
    cases r2 with
    | @dic a vs _ h1 rr =>
      refine ⟨a, valV vs k0, rfl, .k (hd_of h1).2, ?_⟩
      have e : (valV vs k0).isSome = (valD kvs k0).isSome := by
        obtain ⟨g1, g2⟩ := rr.val k0
        cases z : valD kvs k0 with
        | none => rw [g1 z]; rfl
        | some d =>
          obtain ⟨v, g3, _⟩ := g2 d z
          rw [g3]
          rfl
      rw [e]
      exact q _ _ H2 p2 c2 (e1.trans e2) (.bl _)
/-- d[k] -/
theorem ev_dget (h : Ev F td δ fun x => Ev F ty δ fun y => ∃ kvs k d, x = .dic kvs ∧ y = kD k ∧ valD kvs k = some d ∧ P d) : Ev F (tDGet td ty) δ P := fun M σ H Q c q =>
  h M σ H _ c fun u x H1 p1 c1 e1 r1 => p1 M σ H1 _ c1 fun w y H2 p2 c2 e2 r2 => by
    obtain ⟨kvs, k0, d, rfl, rfl, hd', p2⟩ := p2
    have ew := rep_key r2
    subst ew
    have r1' := r1.mono (hd_step c1 e2)
    cases r1' with
    | @dic a vs _ h1 rr =>
      obtain ⟨v, g3, g4⟩ := (rr.val k0).2 d hd'
      refine ⟨a, v, rfl, ?_, q v d H2 p2 c2 (e1.trans e2) g4⟩
      rw [← g3]
      exact .k (hd_of h1).2
end
/-! ### instances -/
def putFD (f : Str) (v : D) : List (Str × D) → List (Str × D)
  | [] => [(f, v)]
  | (g, x) :: r => if g = f then (g, v) :: r else (g, x) :: putFD f v r
theorem RepF.put {K : PySem.W.Frag} {H : Hp} {f : Str} {v : V} {d : D} (h : Rep K H v d) : ∀ {vs : List (Str × V)} {ds : List (Str × D)}, RepF K H vs ds → RepF K H (putF f v vs) (putFD f d ds)
  | _, _, .nil => .cons h .nil
  | _, _, .cons (k := k) h0 r => by
    unfold putF putFD
    by_cases e : k = f
    · rw [if_pos e, if_pos e]
      exact .cons h r
    · rw [if_neg e, if_neg e]
      exact .cons h0 (RepF.put h r)
theorem RepF.length {K : PySem.W.Frag} {H : Hp} : ∀ {vs : List (Str × V)} {ds : List (Str × D)}, RepF K H vs ds → vs.length = ds.length
  | _, _, .nil => rfl
  | _, _, .cons _ r => congrArg Nat.succ (RepF.length r)
/-- C(..) at its class facts -/
def spI (K : PySem.W.Frag) (C : Addr) (Pre : List D → Prop) (Post : List D → List (Str × D) → Prop) : Sp := fun vs H Q _ => ∃ (M : Addr → Bool) (H1 : Hp) (x dx : Addr) (ws : List V) (ds : List D), vs = .ref x :: ws ∧ H1 x = none ∧ H1 dx = none ∧ dx ≠ x ∧
  H = upd (upd H1 dx (.own x)) x (.ins C dx []) ∧ Al M H1 ∧ RepL K (hd M H1) ws ds ∧ Pre ds ∧ ∀ H2 fs, Post ds fs → Same H1 H2 → Rep K (hd M H2) (.ref x) (.ins C fs) → Q .non H2
/-- the same, the last argument a sequence that is only read -/
def spIS (K : PySem.W.Frag) (C : Addr) (Pre : List D → List D → Prop) (Post : List D → List D → List (Str × D) → Prop) : Sp := fun vs H Q _ => ∃ (M : Addr → Bool) (H1 : Hp) (x dx : Addr) (ws : List V) (ds : List D) (p : Addr) (us : List V) (es : List D), vs = .ref x :: (ws ++ [.ref p]) ∧ H1 x = none ∧ H1 dx = none ∧ dx ≠ x ∧
  H = upd (upd H1 dx (.own x)) x (.ins C dx []) ∧ Al M H1 ∧ RepL K (hd M H1) ws ds ∧ (SqL K H1 p us ∨ SqT K H1 p us) ∧ RepL K (hd M H1) us es ∧ Pre ds es ∧ ∀ H2 fs, Post ds es fs → Same H1 H2 → Rep K (hd M H2) (.ref x) (.ins C fs) → Q .non H2
section
variable {F : Fm} {δ : List SD} {ta : TA} {te tv : TE} {P : D → Prop} {R : PD} {C : Addr} {f : Str} {E : XK}
theorem do_fset {i : Nat} {p : Addr} {fs : List (Str × D)} (hi : δ[i]? = some (.own p (.ins C fs))) (cl : Cls F.K C) (na : NoAttr F.K C f) (hl : fs.length < 1000) (h : Ev F tv δ fun v => R.nx (δ.set i (.own p (.ins C (putFD f v fs))))) :
    Do F (sFld F.K (tVar i) tv f) δ R := fun M σ H E c a b k d => by
  refine h M σ H _ c fun v x H1 p1 c1 e1 r1 => ?_
  obtain ⟨s, hs, e, m, ho, hp, rr⟩ := c1.sl i _ hi
  subst e
  cases rr with
  | @ins _ dx vs _ rr =>
    refine ⟨_, hs, p, C, dx, vs, rfl, hp, cl, na, by rw [rr.length]; exact hl, ?_⟩
    refine a M σ _ _ p1 (c1.put hi (.ins (rr.put r1))) ?_
    rw [hd_upd m]
    exact hd_step c e1
theorem ev_fld (cl : Cls F.K C) (na : NoAttr F.K C f) (h : Ev F te δ fun x => ∃ fs d, x = .ins C fs ∧ fs.lookup f = some d ∧ P d) : Ev F (tFld F.K te f) δ P := fun M σ H Q c q =>
  h M σ H _ c fun v x H1 p1 c1 e1 r1 => by
    obtain ⟨fs, d, rfl, hd', p1⟩ := p1
    cases r1 with
    | @ins a _ dx vs _ h1 rr =>
      obtain ⟨u, g1, g2⟩ := rr.get hd'
      exact ⟨a, C, dx, vs, u, rfl, (hd_of h1).2, cl, na, g1, q u d H1 p1 c1 e1 g2⟩
theorem same_made {H1 : Hp} {x dx : Addr} {C : Addr} (hx : H1 x = none) (hdx : H1 dx = none) : Same H1 (upd (upd H1 dx (.own x)) x (.ins C dx [])) := fun a o e => by
  rw [upd_ne (ne_of_none e hx), upd_ne (ne_of_none e hdx)]
  exact e
theorem ev_make {Pre : List D → Prop} {Post : List D → List (Str × D) → Prop} (h : EvA F ta δ fun ds => Pre ds ∧ ∀ fs, Post ds fs → P (.ins C fs)) : Ev F (tMake C (spI F.K C Pre Post) [] E ta) δ P := fun M σ H Q c q =>
  h M σ H _ c fun vs ds H1 p c1 e1 r x dx hx hdx ne => by
    rw [List.append_nil]
    exact ⟨M, H1, x, dx, vs, ds, rfl, hx, hdx, ne, rfl, c1.al, r, p.1, fun H2 fs ps s rr => ⟨rfl, q _ _ H2 (p.2 fs ps) (c1.same s) (e1.trans (StepB.of s)) rr⟩⟩
/-- C(e, xs), xs data -/
theorem ev_makeS {Pre : List D → List D → Prop} {Post : List D → List D → List (Str × D) → Prop} (h : EvA F ta δ fun ds => ∃ es ds0 l, ds = ds0 ++ [l] ∧ (l = .lst es ∨ l = .tup es) ∧ Pre ds0 es ∧ ∀ fs, Post ds0 es fs → P (.ins C fs)) :
    Ev F (tMake C (spIS F.K C Pre Post) [] E ta) δ P := fun M σ H Q c q =>
  h M σ H _ c fun vs ds H1 p c1 e1 r x dx hx hdx ne => by
    obtain ⟨es, ds0, l, rfl, hl, pre, po⟩ := p
    rw [List.append_nil]
    have sp : ∀ {vs : List V} {ds0 : List D}, RepL F.K (hd M H1) vs (ds0 ++ [l]) → ∃ ws u, vs = ws ++ [u] ∧ RepL F.K (hd M H1) ws ds0 ∧ Rep F.K (hd M H1) u l := by
      intro vs ds0
      induction ds0 generalizing vs with
      | nil =>
        intro r
        cases r with
        | cons r1 r2 =>
          cases r2
          exact ⟨[], _, rfl, .nil, r1⟩
      | cons d ds ih =>
        intro r
        cases r with
        | cons r1 r2 =>
          obtain ⟨ws, u, rfl, g1, g2⟩ := ih r2
          exact ⟨_ :: ws, u, rfl, .cons r1 g1, g2⟩
    obtain ⟨ws, u, rfl, g1, g2⟩ := sp r
    have fin : ∀ p us, u = .ref p → (SqL F.K H1 p us ∨ SqT F.K H1 p us) → RepL F.K (hd M H1) us es → spIS F.K C Pre Post (.ref x :: (ws ++ [u])) (upd (upd H1 dx (.own x)) x (.ins C dx [])) (fun v H2 => v = .non ∧ Q (.ref x) H2) E := fun p us eu hs hr => by
      subst eu
      exact ⟨M, H1, x, dx, ws, ds0, p, us, es, rfl, hx, hdx, ne, rfl, c1.al, g1, hs, hr, pre, fun H2 fs ps s rr => ⟨rfl, q _ _ H2 (po fs ps) (c1.same s) (e1.trans (StepB.of s)) rr⟩⟩
    rcases hl with rfl | rfl
    · cases g2 with
      | lst h1 h2 => exact fin _ _ rfl (.inl (SqL.of (hd_of h1).2)) h2
    · cases g2 with
      | tup h1 h2 => exact fin _ _ rfl (.inr (same_tup (same_hd M H1) h1)) h2
/-- C(e, xs), xs a list of one's own -/
theorem ev_makeO {Pre : List D → List D → Prop} {Post : List D → List D → List (Str × D) → Prop} {i : Nat} {p : Addr} {es : List D} (hi : δ[i]? = some (.own p (.lst es))) (h : Ev F te δ fun d => Pre [d] es ∧ ∀ fs, Post [d] es fs → P (.ins C fs)) :
    Ev F (tMake C (spIS F.K C Pre Post) [] E (tCons te (tCons (tVar i) tNil))) δ P := fun M σ H Q c q =>
  h M σ H _ c fun v d H1 p1 c1 e1 r => by
    obtain ⟨s, hs, e, m, ho, hp, rr⟩ := c1.sl i _ hi
    subst e
    cases rr with
    | @lst us _ rr =>
      refine ⟨_, hs, fun x dx hx hdx ne => ?_⟩
      exact ⟨M, H1, x, dx, [v], [d], p, us, es, rfl, hx, hdx, ne, rfl, c1.al, .cons r .nil, .inl (SqL.of hp), rr, p1.1, fun H2 fs ps s rr => ⟨rfl, q _ _ H2 (p1.2 fs ps) (c1.same s) (e1.trans (StepB.of s)) rr⟩⟩
/-- C(a = .., b = ..) -/
theorem ev_makeK {m : Nat} {gV : List V → List V → List V} {tk : TA} {Pre : List D → List D → Prop} {Post : List D → List D → List (Str × D) → Prop} {gD : List D → D × D} (hg : ∀ (H : Hp) (x : V) (zs : List V) (es : List D), RepL F.K H zs es → es.length = m → ∃ u w, gV [x] zs = [x, u, w] ∧ Rep F.K H u (gD es).1 ∧ Rep F.K H w (gD es).2)
    (h : EvA F tk δ fun es => es.length = m ∧ ∃ d l ls, gD es = (d, l) ∧ (l = .lst ls ∨ l = .tup ls) ∧ Pre [d] ls ∧ ∀ fs, Post [d] ls fs → P (.ins C fs)) :
    Ev F (tMakeK C 0 m (spIS F.K C Pre Post) gV E tNil tk) δ P := fun M σ H Q c q => by
  show tk σ H _
  refine h M σ H _ c fun zs es H1 p c1 e1 r => ?_
  obtain ⟨hm, d, l, ls, eg, hl, pre, po⟩ := p
  refine ⟨rfl, by rw [r.length, hm], fun x dx hx hdx ne => ?_⟩
  obtain ⟨u, w, ev, g1, g2⟩ := hg _ (.ref x) zs es r hm
  rw [ev]
  rw [eg] at g1 g2
  have fin : ∀ p us, w = .ref p → (SqL F.K H1 p us ∨ SqT F.K H1 p us) → RepL F.K (hd M H1) us ls → spIS F.K C Pre Post [.ref x, u, w] (upd (upd H1 dx (.own x)) x (.ins C dx [])) (fun v H2 => v = .non ∧ Q (.ref x) H2) E := fun p us eu hs hr => by
    subst eu
    exact ⟨M, H1, x, dx, [u], [d], p, us, ls, rfl, hx, hdx, ne, rfl, c1.al, .cons g1 .nil, hs, hr, pre, fun H2 fs ps s rr => ⟨rfl, q _ _ H2 (po fs ps) (c1.same s) (e1.trans (StepB.of s)) rr⟩⟩
  rcases hl with rfl | rfl
  · cases g2 with
    | lst h1 h2 => exact fin _ _ rfl (.inl (SqL.of (hd_of h1).2)) h2
  · cases g2 with
    | tup h1 h2 => exact fin _ _ rfl (.inr (same_tup (same_hd M H1) h1)) h2
end
/-! ### into an __init__ -/
def slotsI (N : List Str) (x : Addr) (C : Addr) (ds : List SD) : List SD := .own x (.ins C []) :: (ds ++ List.replicate (N.length - (ds.length + 1)) .un)
theorem al_of_none {M : Addr → Bool} {H : Hp} {p : Addr} (al : Al M H) (hp : H p = none) : M p = false := by
  cases e : M p with
  | true =>
    obtain ⟨u, h⟩ := al p e
    rw [hp] at h
    cases h
  | false => rfl
/-- what the slots behind the first bear -/
theorem ctxI {K : PySem.W.Frag} {M : Addr → Bool} {H1 : Hp} {x dx C : Addr} {E : XK} {N : List Str} {ws : List V} {sds : List SD} (hx : H1 x = none) (hdx : H1 dx = none) (ne : dx ≠ x) (al : Al M H1) (hl : ws.length = sds.length)
    (hs : ∀ (i : Nat) (y : SD), sds[i]? = some y → ∃ v, ws[i]? = some v ∧ SlotOk ⟨K, none, M, H1, E, 0, []⟩ (hid M x) (upd (upd H1 dx (.own x)) x (.ins C dx [])) (some v) y) (hn : ∀ (i : Nat) (p : Addr) (o : OD), sds[i]? ≠ some (.own p o)) :
    Ctx ⟨K, none, M, H1, E, 0, []⟩ (hid M x) (L2.start N (.ref x :: ws)) (upd (upd H1 dx (.own x)) x (.ins C dx [])) (slotsI N x C sds) := by
  have s1 := same_made (C := C) hx hdx
  have key : ∀ (i : Nat) (y : SD), (sds ++ List.replicate (N.length - (sds.length + 1)) .un)[i]? = some y → (∃ v, (ws.map some ++ List.replicate (N.length - (ws.length + 1)) none)[i]? = some v ∧ SlotOk ⟨K, none, M, H1, E, 0, []⟩ (hid M x) (upd (upd H1 dx (.own x)) x (.ins C dx [])) v y) ∧ ∀ p o, y ≠ .own p o := fun i y h => by
    by_cases hi : i < sds.length
    · rw [List.getElem?_append_left hi] at h
      obtain ⟨v, g1, g2⟩ := hs i y h
      refine ⟨⟨some v, ?_, g2⟩, fun p o e => hn i p o (e ▸ h)⟩
      rw [List.getElem?_append_left (by rw [List.length_map, hl]; exact hi), List.getElem?_map, g1]
      rfl
    · have hi := Nat.le_of_not_lt hi
      rw [List.getElem?_append_right hi] at h
      have hy : y = .un := List.eq_of_mem_replicate (List.mem_of_getElem? h)
      have hlt := (List.getElem?_eq_some_iff.mp h).1
      rw [List.length_replicate] at hlt
      subst hy
      refine ⟨⟨none, ?_, trivial⟩, fun p o e => by cases e⟩
      rw [List.getElem?_append_right (by rw [List.length_map, hl]; exact hi), List.length_map, hl, List.getElem?_replicate, if_pos hlt]
  refine ⟨fun a m => ?_, al, fun a m => hid_le a m, StepB.of s1, ⟨fun b z => (nomatch z), fun a h => (nomatch h)⟩, ?_, fun i y h => ?_, fun i j p o o' h1 h2 => ?_, fun i p o h => ?_⟩
  · by_cases e : a = x
    · subst e
      exact ⟨_, upd_same⟩
    · rw [hid_ne e] at m
      obtain ⟨o, h⟩ := al a m
      exact ⟨o, s1 _ _ h⟩
  · unfold L2.start slotsI
    simp only [List.length_append, List.length_cons, List.length_map, List.length_replicate, hl]
    omega
  · unfold slotsI at h
    unfold L2.start
    cases i with
    | zero =>
      have e : SD.own x (.ins C []) = y := by simpa using h
      subst e
      exact ⟨_, rfl, rfl, hid_same, _, upd_same, .ins .nil⟩
    | succ i =>
      obtain ⟨⟨v, g1, g2⟩, _⟩ := key i y (by simpa using h)
      exact ⟨v, by simpa using g1, g2⟩
  · unfold slotsI at h1 h2
    cases i with
    | zero =>
      cases j with
      | zero => rfl
      | succ j => exact absurd rfl ((key j _ (by simpa using h2)).2 _ _)
    | succ i => exact absurd rfl ((key i _ (by simpa using h1)).2 _ _)
  · unfold slotsI at h
    cases i with
    | zero =>
      have e : SD.own x (.ins C []) = .own p o := by simpa using h
      cases e
      exact ⟨hx, mv_none rfl rfl _⟩
    | succ i => exact absurd rfl ((key i _ (by simpa using h)).2 _ _)
theorem hid_mono {M : Addr → Bool} {H1 H : Hp} {x : Addr} (hx : H1 x = none) (s : Same H1 H) : Same (hd M H1) (hd (hid M x) H) := fun a o e => by
  obtain ⟨m, h⟩ := hd_of e
  exact hd_at (by rw [hid_ne (ne_of_none h hx)]; exact m) (s _ _ h)
section
variable {K : PySem.W.Frag} {N : List Str} {vs : List V} {H : Hp} {Q : VK} {E : XK} {t : TS} {C : Addr}
theorem leaveI {M M' : Addr → Bool} {H1 H' : Hp} {x : Addr} {σ' : L2.St} {δ' : List SD} {fs : List (Str × D)} (hx : H1 x = none) (al : Al M H1) (c' : Ctx ⟨K, none, M, H1, E, 0, []⟩ M' σ' H' δ') (h0 : δ'[0]? = some (.own x (.ins C fs))) :
    Same H1 H' ∧ Rep K (hd M H') (.ref x) (.ins C fs) := by
  refine ⟨fun a o h => c'.fr a o (mv_none rfl rfl a) h, ?_⟩
  obtain ⟨s, h1, e, m, ho, hp, r⟩ := c'.sl 0 _ h0
  exact (r.mono (same_hd_le fun a h => c'.m0 a h)).rep (hd_at (al_of_none al hx) hp)
theorem enterIS {Pre : List D → List D → Prop} {Post : List D → List D → List (Str × D) → Prop} (hs : spIS K C Pre Post vs H Q E)
    (hb : ∀ (M : Addr → Bool) (H1 : Hp) (x : Addr) (ds es : List D), Pre ds es → ds.length + 2 = vs.length → Do ⟨K, none, M, H1, E, 0, []⟩ t (slotsI N x C (ds.map .dat ++ [.sq es])) { nx := fun δ' => ∃ fs, δ'[0]? = some (.own x (.ins C fs)) ∧ Post ds es fs }) :
    t { nx := fun _ H' => Q .non H', rt := Q } (L2.start N vs) H := by
  obtain ⟨M, H1, x, dx, ws, ds, p, us, es, rfl, hx, hdx, ne, rfl, al, r, hq, rq, pre, q⟩ := hs
  have hl := r.length
  have s1 := same_made (C := C) hx hdx
  have c := ctxI (K := K) (E := E) (C := C) (N := N) (ws := ws ++ [.ref p]) (sds := ds.map .dat ++ [.sq es]) hx hdx ne al (by simp [hl]) (fun i y h => ?_) (fun i p o h => ?_)
  · refine hb M H1 x ds es pre (by simp [hl]) _ _ _ _ c (fun M' σ' H' δ' pp c' s => ?_) (fun v d M' σ' H' δ' pp => pp.elim) (fun _ _ _ _ p => p.elim) (fun _ _ _ _ p => p.elim)
    obtain ⟨fs, h0, po⟩ := pp
    obtain ⟨g1, g2⟩ := leaveI hx al c' h0
    exact q H' fs po g1 g2
  · by_cases hi : i < ds.length
    · rw [List.getElem?_append_left (by simpa using hi), List.getElem?_map] at h
      cases z : ds[i]? with
      | none => rw [z] at h; cases h
      | some d =>
        rw [z] at h
        cases h
        obtain ⟨v, g1, g2⟩ := r.get z
        exact ⟨v, by rw [List.getElem?_append_left (by rw [hl]; exact hi)]; exact g1, v, rfl, g2.mono (hid_mono hx s1)⟩
    · have hi := Nat.le_of_not_lt hi
      rw [List.getElem?_append_right (by simpa using hi)] at h
      simp only [List.length_map] at h
      have e0 : i - ds.length = 0 := by
        have := (List.getElem?_eq_some_iff.mp h).1
        simpa using this
      rw [e0] at h
      cases h
      refine ⟨.ref p, by rw [List.getElem?_append_right (by rw [hl]; exact hi), hl, e0]; rfl, p, us, rfl, mv_none rfl rfl _, hq, rq.mono (hid_mono hx s1)⟩
  · have := List.mem_of_getElem? h
    rcases List.mem_append.mp this with h | h
    · obtain ⟨d, _, e⟩ := List.mem_map.mp h
      cases e
    · have := List.mem_singleton.mp h
      cases this
end
end Pf

namespace Pf
open PySem L2 RZ PySem.Spec PyProof.Rows PySem.SeqAt
/-! ### len, bool, repr, == and != by defs of one's own -/
section
variable {M : Model} {prog : Program} {w : World} {A : Around} {E : Value → Shared → Prop} {s : Shared} {K : PySem.W.Frag} {x C f : Addr} {ox : Obj} {od : Option Obj} {b tb : Value}
theorem ifBound_ne {args : List Value} {Q : Option Value → Shared → Prop} (X : K.In s.heap) (I : PySem.W.InstAt s.heap x ox C od) (hs : PySem.W.findIn K (.ref C) "__ne__" = some (some (.builtin "object.__ne__")))
    (h : wpAny M A (call (.builtin "object.__ne__") (.ref x :: args)) (fun v => Q (some v)) E s) : wpAny M A (callSpecialIfBound? (.ref x) "__ne__" args) Q E s := by
  simp only [callSpecialIfBound?, bindSpecialIfBound?]
  refine wpAny_holding (wpAny_bind (wpAny_bind (wpAny_bind (I.type.here ((PySem.W.looks_findIn X hs).here ?_)))))
  refine wpAny_bind (wpAny_askSetting (wpAny_ite ?_))
  have fin : wpAny M A (call (.builtin "object.__ne__") ([.ref x] ++ args) >>= fun v => pure (some v)) Q E s := wpAny_bind (wpAny_mono h (fun v s' h' => wpAny_pure h') fun _ _ h' => h')
  split
  · exact wpAny_bind (wpAny_of_eq (F.cmp_object.ne.bind _) (wpAny_pure (by exact fin)))
  · exact wpAny_tryCatch (wpAny_bind (wpAny_of_eq (F.cmp_object.ne.bind _) (wpAny_pure (by exact fin))))
theorem entry_ne {Q : Fin → Shared → Prop} (hu : A.units < cLine) (X : K.In s.heap) (I : PySem.W.InstAt s.heap x ox C od) (hs : PySem.W.findIn K (.ref C) "__eq__" = some (some (.ref f))) (hf : PySem.W.isFn K (.ref f) = true)
    (h : wpAny (model prog w) A (call (.ref f) [.ref x, b]) (fun v s' => ∃ c, v = .bool c ∧ Q (.done (.ret (.bool (!c)))) s') E s) : wpAny (model prog w) A (Builtin.«object.__ne__» ⟨[.ref x, b], []⟩) Q E s := by
  unfold Builtin.«object.__ne__»
  refine wpAny_bind (m := slotArgs "__ne__" 1 _) (wpAny_pure ?_)
  refine wpAny_bind (wpAny_cRoomFor hu ?_)
  refine wpAny_bind (PySem.W.ifBound_K X I hs hf (wpAny_mono h (fun v s' hv => ?_) fun _ _ e => e))
  obtain ⟨c, rfl, q⟩ := hv
  exact wpAny_bind (wpAny_truthy_bool (wpAny_pure q))
theorem ne_K {Q : Value → Shared → Prop} (hu : A.units + 1 < cLine) (X : K.In s.heap) (I : PySem.W.InstAt s.heap x ox C od) (hb : PySem.W.Looks (model prog w) s.heap (typeOf b) tb) (hn : PySem.W.notFirst K C tb = true) (hm : PySem.W.mroIn K C (.type "object") = some true)
    (hne : PySem.W.findIn K (.ref C) "__ne__" = some (some (.builtin "object.__ne__"))) (hs : PySem.W.findIn K (.ref C) "__eq__" = some (some (.ref f))) (hf : PySem.W.isFn K (.ref f) = true)
    (h : wpAny (model prog w) A.in1 (call (.ref f) [.ref x, b]) (fun v s' => ∃ c, v = .bool c ∧ Q (.bool (!c)) s') E s) : wpAny (model prog w) A (richCompare .NotEq (.ref x) b) Q E s := by
  have one : wpAny (model prog w) A (tryCompare (.ref x) (cmpInfo .NotEq).2.1 b) (fun r s' => ∃ v, r = some v ∧ Q v s') E s := by
    unfold tryCompare
    refine wpAny_bind (ifBound_ne X I hne (wpAny_call (codeAny_call_builtin F.cmp_object.ne.plain F.cmpEntry_ne (PySem.W.check_slot F.cmpKind_ne F.cmpSplit_ne (I.type.andThen (PySem.W.looks_mroIn X hm)) (F.cmpArgs_ne _ _) (entry_ne (A := A.in1) hu X I hs hf (wpAny_mono h (fun v s' hv => ?_) fun _ _ e => e))))))
    obtain ⟨c, rfl, q⟩ := hv
    exact ⟨c, rfl, wpAny_pure ⟨_, rfl, q⟩⟩
  unfold richCompare
  simp only [oneThing_ref]
  refine wpAny_holding (wpAny_bind (wpAny_cRoomFor (Nat.lt_of_succ_lt hu) ?_))
  refine wpAny_bind (I.type.here (wpAny_bind (hb.here ?_)))
  split
  · rename_i q
    have e : PySem.W.subIn K tb (.ref C) = some false := by
      rcases Bool.or_eq_true_iff.mp hn with e | e
      · rw [beq_iff_eq.mp e] at q; simp at q
      · exact beq_iff_eq.mp e
    refine wpAny_bind ((PySem.W.looks_subIn X e).here ?_)
    simp only [Bool.false_eq_true, if_false]
    refine wpAny_bind (wpAny_mono one (fun r s' z => ?_) fun _ _ e => e)
    obtain ⟨v, rfl, hq⟩ := z
    exact wpAny_pure hq
  · refine wpAny_bind (wpAny_pure ?_)
    simp only [Bool.false_eq_true, if_false]
    refine wpAny_bind (wpAny_mono one (fun r s' z => ?_) fun _ _ e => e)
    obtain ⟨v, rfl, hq⟩ := z
    exact wpAny_pure hq
/-- bool(x) -/
theorem bool_K {Q : Value → Shared → Prop} (X : K.In s.heap) (I : PySem.W.InstAt s.heap x ox C od) (hs : PySem.W.findIn K (.ref C) "__bool__" = some (some (.ref f))) (hf : PySem.W.isFn K (.ref f) = true)
    (h : wpAny (model prog w) A.in1.in1 (call (.ref f) [.ref x]) (fun v s' => ∃ c, v = .bool c ∧ Q (.bool c) s') E s) : wpAny (model prog w) A (call (.type "bool") [.ref x]) Q E s := by
  refine callType_codes (T := "bool") (Bi := Builtin.«object.__init__») (Q₁ := fun r s₁ => ∃ c, r = .bool c ∧ Q r s₁) PySem.F.called_bool (PySem.F.typeCall_bool_1 _) PySem.F.entry_object_init ?_ ?_
  · refine codeAny_of_tree ?_
    show wpAny _ A.in1.in1 (do checkBuiltinCall "bool.__new__" ⟨[.type "bool", .ref x], []⟩; again (.builtin "bool.__new__" ⟨[.type "bool", .ref x], []⟩)) _ _ s
    refine wpAny_bind (wpAny_of_eq (PySem.F.newCall_bool_1 _) (wpAny_pure ⟨plainId_quiet (by decide +kernel) _, codeAny_builtin PySem.F.entry_bool_new ?_⟩))
    rw [Around.under_plainId (by decide +kernel) _]
    unfold Builtin.«bool.__new__»
    refine wpAny_bind (wpAny_of_eq (a := true) (by first | rfl | kernel_rfl) ?_)
    refine PySem.W.KFB.if_not rfl ?_
    refine wpAny_bind (wpAny_of_eq (a := true) F.conv_sub_bool ?_)
    refine PySem.W.KFB.if_not rfl ?_
    refine wpAny_bind (m := someArgs "bool" 0 1 _) (wpAny_pure ?_)
    refine wpAny_bind ?_
    unfold truthy
    refine wpAny_bind (m := callSpecial? (.ref x) (Str.ofString "__bool__")) (PySem.W.special_fn X I hs (beq_iff_eq.mp hf) (wpAny_mono h (fun r s' hr => ?_) fun _ _ y => y))
    obtain ⟨c, rfl, q⟩ := hr
    exact wpAny_pure (wpAny_pure ⟨c, rfl, q⟩)
  · rintro obj s₁ ⟨c, rfl, hq⟩
    exact ⟨rfl, PySem.F.args_object_init_2 _ _, object_init_meets PySem.F.called_bool.init.lookup PySem.F.called_bool.made (by decide) prog w A.in1 _ s₁ ⟨rfl, rfl, hq⟩⟩
end
/-! as rules of the layer -/
def rOwn1 (C : Addr) (sp : Sp) (E : XK) (ok : V → Prop) : List V → Hp → VK → Prop := fun xs H Q => ∃ a dx fs, xs = [.ref a] ∧ H a = some (.ins C dx fs) ∧ sp [.ref a] H (fun v H' => ok v ∧ Q v H') E
def okLen (v : V) : Prop := ∃ n : Int, v = .int n ∧ 0 ≤ n ∧ n < 2 ^ 63
def okStr (v : V) : Prop := ∃ z : Str, v = .str z
def okBl (v : V) : Prop := ∃ c : Bool, v = .bl c
def rEqOwn (K : PySem.W.Frag) (C : Addr) (sp : Sp) (E : XK) (neg : Bool) : R2 := fun x y H Q => ∃ a dx fs tb, x = .ref a ∧ H a = some (.ins C dx fs) ∧ TyX K H y tb ∧ PySem.W.notFirst K C tb = true ∧ sp [x, y] H (fun v H' => ∃ c, v = .bl c ∧ Q (.bl (if neg then !c else c)) H') E
section
variable {X : Cx} {CX : CXT} {n : Nat} {C g : Addr} {sp : Sp} {E : XK}
theorem call_lenOwn (hs : PySem.W.findIn X.K (.ref C) "__len__" = some (some (.ref g))) (hf : PySem.W.isFn X.K (.ref g) = true) (F : FnR X.prog X.w X.K X.mg X.base CX n g sp) (hr : Room (n + 1) X.A) (hx : Passes CX X E) : CallR X (.builtin "len") (rOwn1 C sp E okLen) := by
  intro pins s σ H xs us Q I r h
  obtain ⟨a, dx, fs, rfl, ea, q⟩ := h
  obtain ⟨u, rfl, ru⟩ := r.one
  cases (show u = Value.ref a from ru)
  obtain ⟨mA, O, _⟩ := ins_get I.hok ea
  obtain ⟨od, J, _⟩ := O.look
  obtain ⟨m, hF⟩ := I.fr
  refine PySem.W.len_K hF I.ok.mod.kin J hs hf (wpAny_mono (wpAny_call (SlX.run_at (us := [.ref a]) (ws := [.ref a]) F (Room.in1 hr) I.env0.in1 hx I (.cons rfl .nil) q)) (fun w s' z => ?_) fun _ _ x => x)
  obtain ⟨v, H', I', rv, ⟨i, rfl, h0, h1⟩, qv⟩ := z
  obtain ⟨t, rfl⟩ := (show ∃ t, w = Value.int i t from rv)
  exact ⟨⟨h0, h1⟩, .int i, H', I'.tok _, ⟨_, rfl⟩, qv⟩
theorem call_reprOwn (hu : X.A.units + 64 < cLine) (hs : PySem.W.findIn X.K (.ref C) "__repr__" = some (some (.ref g))) (hf : PySem.W.isFn X.K (.ref g) = true) (F : FnR X.prog X.w X.K X.mg X.base CX n g sp) (hr : Room (n + 1) X.A) (hx : Passes CX X E) : CallR X (.builtin "repr") (rOwn1 C sp E okStr) := by
  intro pins s σ H xs us Q I r h
  obtain ⟨a, dx, fs, rfl, ea, q⟩ := h
  obtain ⟨u, rfl, ru⟩ := r.one
  cases (show u = Value.ref a from ru)
  obtain ⟨mA, O, _⟩ := ins_get I.hok ea
  obtain ⟨od, J, _⟩ := O.look
  obtain ⟨m, hF⟩ := I.fr
  refine PySem.W.repr_K (by show X.A.units + 1 < cLine; omega) hF I.ok.mod.kin J hs hf (wpAny_mono (wpAny_call (SlX.run_at (us := [.ref a]) (ws := [.ref a]) F (Room.in1 hr) I.env0.in1 hx I (.cons rfl .nil) q)) (fun w s' z => ?_) fun _ _ x => x)
  obtain ⟨v, H', I', rv, ⟨i, rfl⟩, qv⟩ := z
  obtain ⟨t, rfl⟩ := (show ∃ t, w = Value.str i t from rv)
  exact ⟨.str i, H', I', ⟨_, rfl⟩, qv⟩
theorem call_boolOwn (hs : PySem.W.findIn X.K (.ref C) "__bool__" = some (some (.ref g))) (hf : PySem.W.isFn X.K (.ref g) = true) (F : FnR X.prog X.w X.K X.mg X.base CX n g sp) (hr : Room (n + 2) X.A) (hx : Passes CX X E) : CallR X (.type "bool") (rOwn1 C sp E okBl) := by
  intro pins s σ H xs us Q I r h
  obtain ⟨a, dx, fs, rfl, ea, q⟩ := h
  obtain ⟨u, rfl, ru⟩ := r.one
  cases (show u = Value.ref a from ru)
  obtain ⟨mA, O, _⟩ := ins_get I.hok ea
  obtain ⟨od, J, _⟩ := O.look
  have hr2 : Room n X.A.in1.in1 := (show Room (n + 1) X.A.in1 from Room.in1 hr).in1
  refine bool_K I.kIn J hs hf (wpAny_mono (wpAny_call (SlX.run_at (us := [.ref a]) (ws := [.ref a]) F hr2 I.env0.in1.in1 hx I (.cons rfl .nil) q)) (fun w s' z => ?_) fun _ _ x => x)
  obtain ⟨v, H', I', rv, ⟨i, rfl⟩, qv⟩ := z
  cases (show w = Value.bool i from rv)
  exact ⟨i, rfl, .bl i, H', I', rfl, qv⟩
theorem tyX_looks {M : Model} {pins : List (Addr × Obj)} {σ : L2.St} {H : Hp} {s : Shared} {y : V} {u t : Value} (I : Inv X pins σ H s) (ry : RelV y u) (ty : TyX X.K H y t) : PySem.W.Looks M s.heap (typeOf u) t := by
  obtain ⟨P, k, p⟩ := kit_of I ry ty
  exact k.ty M _ I.kIn p.1
theorem op_eqOwn (K : PySem.W.Frag) (hs : PySem.W.findIn X.K (.ref C) "__eq__" = some (some (.ref g))) (hf : PySem.W.isFn X.K (.ref g) = true) (F : FnR X.prog X.w X.K X.mg X.base CX n g sp) (hr : Room n X.A) (hx : Passes CX X E) (hK : X.K = K := by rfl) : OpR X (compareOp .Eq) (rEqOwn K C sp E false) := by
  subst hK
  intro pins s σ H x y v u Q I rx ry h
  obtain ⟨a, dx, fs, tb, rfl, ea, ty, hn, q⟩ := h
  cases (show v = Value.ref a from rx)
  obtain ⟨mA, O, _⟩ := ins_get I.hok ea
  obtain ⟨od, J, _⟩ := O.look
  obtain ⟨m, hF⟩ := I.fr
  show wpAny _ _ (richCompare .Eq _ _) _ _ _
  refine PySem.W.cmp_K (op := .Eq) (tb := tb) hr.units0 hF I.ok.mod.kin J (tyX_looks I ry ty) hn hs hf ?_
  refine wpAny_mono (wpAny_call (run_fnR (us := [.ref a, u]) (vs := [.ref a, y]) F hr hx I (.cons rfl (.cons ry .nil)) q)) (fun w s' z => ?_) fun _ _ x => x
  obtain ⟨z', H', I', rz, c, rfl, qz⟩ := z
  cases (show w = Value.bool c from rz)
  exact ⟨.bl c, H', I', rfl, qz⟩
theorem op_neOwn (K : PySem.W.Frag) (hu : X.A.units + 64 < cLine) (hm : PySem.W.mroIn X.K C (.type "object") = some true) (hne : PySem.W.findIn X.K (.ref C) "__ne__" = some (some (.builtin "object.__ne__"))) (hs : PySem.W.findIn X.K (.ref C) "__eq__" = some (some (.ref g))) (hf : PySem.W.isFn X.K (.ref g) = true)
    (F : FnR X.prog X.w X.K X.mg X.base CX n g sp) (hr : Room (n + 1) X.A) (hx : Passes CX X E) (hK : X.K = K := by rfl) : OpR X (compareOp .NotEq) (rEqOwn K C sp E true) := by
  subst hK
  intro pins s σ H x y v u Q I rx ry h
  obtain ⟨a, dx, fs, tb, rfl, ea, ty, hn, q⟩ := h
  cases (show v = Value.ref a from rx)
  obtain ⟨mA, O, _⟩ := ins_get I.hok ea
  obtain ⟨od, J, _⟩ := O.look
  show wpAny _ _ (richCompare .NotEq _ _) _ _ _
  refine ne_K (tb := tb) (by omega) I.kIn J (tyX_looks I ry ty) hn hm hne hs hf ?_
  refine wpAny_mono (wpAny_call (SlX.run_at (us := [.ref a, u]) (ws := [.ref a, y]) F (Room.in1 hr) I.env0.in1 hx I (.cons rfl (.cons ry .nil)) q)) (fun w s' z => ?_) fun _ _ x => x
  obtain ⟨z', H', I', rz, c, rfl, qz⟩ := z
  cases (show w = Value.bool c from rz)
  exact ⟨c, rfl, .bl (!c), H', I', rfl, qz⟩
end
/-! on data -/
/-- what of its class an instance is asked -/
structure ClsF (K : PySem.W.Frag) (C : Addr) : Prop where
  cl : Cls K C
  ca : PySem.W.findIn K (.ref C) "__class__" = some (some (.builtin "object.__class__"))
  cn : PySem.W.specialIn K (.builtin "object.__class__") "__get__" = some (some (.builtin "getset_descriptor.__get__"))
  ct : PySem.W.takesIn K (.builtin "object.__class__") = some true
  cm : PySem.W.mroIn K C (.type "object") = some true
theorem ClsF.ty {K : PySem.W.Frag} {C a dx : Addr} {H : Hp} {fs : List (Str × V)} (c : ClsF K C) (e : H a = some (.ins C dx fs)) : TyX K H (.ref a) (.ref C) := .base (.ins e c.cl c.ca c.cn c.ct c.cm)
section
variable {K : PySem.W.Frag} {C : Addr} {E : XK} {Pre : List D → Prop} {Post : List D → D → Prop} {P : D → Prop} {fs gs : List (Str × D)} {y : D}
theorem rep_ins {H : Hp} {v : V} (r : Rep K H v (.ins C fs)) : ∃ a dx us, v = .ref a ∧ H a = some (.ins C dx us) := by
  cases r with
  | @ins a _ dx us _ h1 rr => exact ⟨a, dx, us, rfl, h1⟩
theorem cd_lenOwn (pre : Pre [.ins C fs]) (po : ∀ d, Post [.ins C fs] d → ∃ n : Int, d = .int n ∧ 0 ≤ n ∧ n < 2 ^ 63 ∧ P d) : CallD K (rOwn1 C (spD K Pre Post) E okLen) [.ins C fs] P := fun M H vs Q al r q => by
  cases r with
  | cons r1 r2 =>
    cases r2
    obtain ⟨a, dx, us, rfl, h1⟩ := rep_ins r1
    refine ⟨a, dx, us, rfl, (hd_of h1).2, M, _, al, .cons r1 .nil, pre, fun v d H' pd s rv => ?_⟩
    obtain ⟨n, rfl, h0, h1, pp⟩ := po d pd
    cases rv
    exact ⟨⟨n, rfl, h0, h1⟩, q _ _ H' pp s (.int n)⟩
theorem cd_reprOwn (pre : Pre [.ins C fs]) (po : ∀ d, Post [.ins C fs] d → ∃ z : Str, d = .str z ∧ P d) : CallD K (rOwn1 C (spD K Pre Post) E okStr) [.ins C fs] P := fun M H vs Q al r q => by
  cases r with
  | cons r1 r2 =>
    cases r2
    obtain ⟨a, dx, us, rfl, h1⟩ := rep_ins r1
    refine ⟨a, dx, us, rfl, (hd_of h1).2, M, _, al, .cons r1 .nil, pre, fun v d H' pd s rv => ?_⟩
    obtain ⟨n, rfl, pp⟩ := po d pd
    cases rv
    exact ⟨⟨n, rfl⟩, q _ _ H' pp s (.str n)⟩
theorem cd_boolOwn (pre : Pre [.ins C fs]) (po : ∀ d, Post [.ins C fs] d → ∃ c : Bool, d = .bl c ∧ P d) : CallD K (rOwn1 C (spD K Pre Post) E okBl) [.ins C fs] P := fun M H vs Q al r q => by
  cases r with
  | cons r1 r2 =>
    cases r2
    obtain ⟨a, dx, us, rfl, h1⟩ := rep_ins r1
    refine ⟨a, dx, us, rfl, (hd_of h1).2, M, _, al, .cons r1 .nil, pre, fun v d H' pd s rv => ?_⟩
    obtain ⟨n, rfl, pp⟩ := po d pd
    cases rv
    exact ⟨⟨n, rfl⟩, q _ _ H' pp s (.bl n)⟩
theorem od_eqOwn {neg : Bool} {tb : Value} (ty : ∀ (H : Hp) (w : V), Rep K H w y → TyX K H w tb) (hn : PySem.W.notFirst K C tb = true) (pre : Pre [.ins C fs, y]) (po : ∀ d, Post [.ins C fs, y] d → ∃ c : Bool, d = .bl c ∧ P (.bl (if neg then !c else c))) :
    OpD K (rEqOwn K C (spD K Pre Post) E neg) (.ins C fs) y P := fun M H v w Q al r1 r2 q => by
  obtain ⟨a, dx, us, rfl, h1⟩ := rep_ins r1
  refine ⟨a, dx, us, tb, rfl, (hd_of h1).2, ty _ _ (r2.mono (same_hd M H)), hn, M, _, al, .cons r1 (.cons r2 .nil), pre, fun u d H' pd s rv => ?_⟩
  obtain ⟨c, rfl, pp⟩ := po d pd
  cases rv
  exact ⟨c, rfl, q _ _ H' pp s (.bl _)⟩
theorem ty_ins (c : ClsF K C) : ∀ (H : Hp) (w : V), Rep K H w (.ins C gs) → TyX K H w (.ref C) := fun H w r => by
  obtain ⟨a, dx, us, rfl, h1⟩ := rep_ins r
  exact c.ty h1
theorem ty_name {n : String} (h : tyName y = some n) : ∀ (H : Hp) (w : V), Rep K H w y → TyX K H w (.type n) := fun H w r => tyX_of r h
theorem cd_isiC {tb : Value} {b : Bool} (ty : ∀ (H : Hp) (w : V), Rep K H w y → TyX K H w tb) (hk : PySem.W.kitOne K tb (.ref C) = some b) (p : P (.bl b)) : CallD K (rIsi K) [y, .adr C] P := fun M H vs Q al r q => by
  cases r with
  | cons r1 r2 =>
    cases r2 with
    | cons r2 r3 =>
      cases r3
      cases r2
      exact ⟨_, _, tb, .ref C, b, rfl, .own C, ty _ _ (r1.mono (same_hd M H)), hk, q _ _ H p (Same.refl H) (.bl b)⟩
end
/-! methods and properties -/
section
variable {F : Fm} {δ : List SD} {ta : TA} {te : TE} {P : D → Prop} {C : Addr} {m : Str} {Pre : List D → Prop} {Post : List D → D → Prop} {E : XK}
theorem ev_meth (h : Ev F te δ fun x => ∃ fs, x = .ins C fs ∧ fs.lookup m = none ∧ EvA F ta δ fun ds => Pre (x :: ds) ∧ ∀ d, Post (x :: ds) d → P d) : Ev F (tMeth C m (spD F.K Pre Post) [] E te ta) δ P := fun M σ H Q c q =>
  h M σ H _ c fun v x H1 p1 c1 e1 r1 => by
    obtain ⟨fs, rfl, hm, p1⟩ := p1
    have hr := r1
    cases r1 with
    | @ins a _ dx us _ h1 rr =>
      refine ⟨a, dx, us, rfl, (hd_of h1).2, rr.none hm, ?_⟩
      refine p1 M σ H1 _ c1 fun vs ds H2 p2 c2 e2 r2 => ?_
      rw [List.append_nil]
      exact ⟨M, _, c2.al, .cons (hr.mono (hd_step c1 e2)) r2, p2.1, fun v d H3 pd s r3 => q v d H3 (p2.2 d pd) (c2.same s) ((e1.trans e2).trans (StepB.of s)) r3⟩
theorem ev_prop (h : Ev F te δ fun x => ∃ fs, x = .ins C fs ∧ Pre [x] ∧ ∀ d, Post [x] d → P d) : Ev F (tProp C (spD F.K Pre Post) [] E te) δ P := fun M σ H Q c q =>
  h M σ H _ c fun v x H1 p1 c1 e1 r1 => by
    obtain ⟨fs, rfl, pre, po⟩ := p1
    have hr := r1
    cases r1 with
    | @ins a _ dx us _ h1 rr =>
      exact ⟨a, dx, us, rfl, (hd_of h1).2, M, _, c1.al, .cons hr .nil, pre, fun v d H3 pd s r3 => q v d H3 (po d pd) (c1.same s) (e1.trans (StepB.of s)) r3⟩
/-- a method that makes a new list -/
def spN (K : PySem.W.Frag) (Pre : List D → Prop) (Post : List D → List D → Prop) : Sp := fun vs H Q _ => ∃ (M : Addr → Bool) (ds : List D), Al M H ∧ RepL K (hd M H) vs ds ∧ Pre ds ∧
  ∀ p us es H', Post ds es → H p = none → Same H H' → H' p = some (.lst us) → RepL K (hd (hid M p) H') us es → Q (.ref p) H'
/-- p, new, is hidden -/
theorem Ctx.take {M : Addr → Bool} {σ : L2.St} {H H' : Hp} (c : Ctx F M σ H δ) {p : Addr} {us : List V} (hp : H p = none) (s : Same H H') (h : H' p = some (.lst us)) : Ctx F (hid M p) σ H' δ := by
  have c' := c.same s
  have ne : ∀ a, F.M0 a = true → a ≠ p := fun a m e => by
    subst e
    obtain ⟨o, h⟩ := c.al0 _ m
    have := c.h0 hp
    rw [h] at this
    cases this
  refine ⟨fun a m => ?_, c.al0, fun a m => hid_le a (c.m0 a m), c'.fr, c'.bg, c.ln, fun i x hx => ?_, c.dj, c.oh⟩
  · by_cases e : a = p
    · subst e
      exact ⟨_, h⟩
    · rw [hid_ne e] at m
      exact c'.al a m
  · have hs : Same (hd M H) (hd (hid M p) H') := hid_mono hp s
    obtain ⟨y, h1, h2⟩ := c.sl i x hx
    refine ⟨y, h1, ?_⟩
    cases x with
    | un => trivial
    | dat d =>
      obtain ⟨v, e, r⟩ := h2
      exact ⟨v, e, r.mono hs⟩
    | own q ds =>
      obtain ⟨e, m, vs, h3, r⟩ := h2
      exact ⟨e, hid_le q m, vs, s _ _ h3, r.mono hs⟩
    | bag => exact h2
    | sq ds =>
      obtain ⟨q, vs, g1, g2, g3, g4⟩ := h2
      exact ⟨q, vs, g1, g2, g3, g4.mono hs⟩
    | sl ds =>
      obtain ⟨q, vs, g1, g2, g3, g4⟩ := h2
      exact ⟨q, vs, g1, g2, g3, g4.mono hs⟩
theorem en_meth {PostN : List D → List D → Prop} {PL : List D → Prop} (h : Ev F te δ fun x => ∃ fs, x = .ins C fs ∧ fs.lookup m = none ∧ EvA F ta δ fun ds => Pre (x :: ds) ∧ ∀ d, PostN (x :: ds) d → PL d) : EvN F (tMeth C m (spN F.K Pre PostN) [] E te ta) δ PL := fun M σ H Q c q =>
  h M σ H _ c fun v x H1 p1 c1 e1 r1 => by
    obtain ⟨fs, rfl, hm, p1⟩ := p1
    have hr := r1
    cases r1 with
    | @ins a _ dx us _ h1 rr =>
      refine ⟨a, dx, us, rfl, (hd_of h1).2, rr.none hm, ?_⟩
      refine p1 M σ H1 _ c1 fun vs ds H2 p2 c2 e2 r2 => ?_
      rw [List.append_nil]
      refine ⟨M, _, c2.al, .cons (hr.mono (hd_step c1 e2)) r2, p2.1, fun p us es H3 pd hp s h3 r3 => ?_⟩
      have hp0 : H p = none := by
        cases z : H p with
        | none => rfl
        | some o =>
          have := (e1.trans e2) p o (c2.nob hp) z
          rw [hp] at this
          cases this
      exact q p us es H3 (p2.2 es pd) (c2.take hp s h3) hp0 (c2.h0 hp) (c2.nob hp) (c2.nown hp) ((e1.trans e2).trans (StepB.of s)) h3 r3
/-- a new list that nobody holds is changed: nothing is seen of it -/
theorem do_dropAppend {R : PD} {tx : TE} {PL : List D → Prop} (h : EvN F te δ PL) (hl : ∀ ds, PL ds → ds.length < 100000) (hx : Ev F tx δ fun _ => R.nx δ) : Do F (tDrop (tBM F.K "list" rAppend te (tCons tx tNil))) δ R := fun M σ H E c a b k d => by
  refine h M σ H _ c fun p vs ds H1 pd c1 hp h0 hb no e h1 r => ?_
  refine ⟨.inl ⟨rfl, vs, SqL.of h1⟩, ?_⟩
  refine hx (hid M p) σ H1 _ c1 fun v x H2 px c2 e2 r2 => ?_
  have h2 := e2 p _ hb h1
  refine ⟨p, vs, v, rfl, rfl, h2, by rw [r.length]; exact sz_lt (hl ds pd), ?_⟩
  have c3 := c2.poke (ys := .lst (vs ++ [v])) hid_same h2 h0 hb no
  have m := al_none c.al hp
  have c4 := c3.show' m h0 no
  refine a M σ _ δ px c4 (fun x o q => ?_)
  obtain ⟨mx, hx'⟩ := hd_of q
  have nx : x ≠ p := ne_of_none hx' hp
  have nb : ¬ F.mv x := fun z => by
    have := c.m0 x (z.elim (fun z => (c.bg.1 x z).1) fun z => (c.bg.2 x z).1)
    rw [mx] at this
    cases this
  exact hd_at mx (by rw [upd_ne nx]; exact e2 x o nb (e x o nb hx'))
theorem do_dropClear {R : PD} {PL : List D → Prop} (h : EvN F te δ PL) (hx : R.nx δ) : Do F (tDrop (tBM0 F.K "list" rClear te)) δ R := fun M σ H E c a b k d => by
  refine h M σ H _ c fun p vs ds H1 pd c1 hp h0 hb no e h1 r => ?_
  refine ⟨.inl ⟨rfl, vs, SqL.of h1⟩, p, vs, rfl, rfl, h1, ?_⟩
  have c3 := c1.poke (ys := .lst []) hid_same h1 h0 hb no
  have m := al_none c.al hp
  have c4 := c3.show' m h0 no
  refine a M σ _ δ hx c4 (fun x o q => ?_)
  obtain ⟨mx, hx'⟩ := hd_of q
  have nx : x ≠ p := ne_of_none hx' hp
  have nb : ¬ F.mv x := fun z => by
    have := c.m0 x (z.elim (fun z => (c.bg.1 x z).1) fun z => (c.bg.2 x z).1)
    rw [mx] at this
    cases this
  exact hd_at mx (by rw [upd_ne nx]; exact e x o nb hx')
end
section
variable {K : PySem.W.Frag} {N : List Str} {vs : List V} {H : Hp} {Q : VK} {E : XK} {te : TE} {t : TS} {Pre : List D → Prop} {Post : List D → List D → Prop}
theorem enterN (hs : spN K Pre Post vs H Q E) (hb : ∀ (M : Addr → Bool) (ds : List D), Pre ds → ds.length = vs.length → Do ⟨K, none, M, H, E, 0, []⟩ t (slots N ds) { nx := fun δ' => EvN ⟨K, none, M, H, E, 0, []⟩ te δ' (Post ds) }) :
    tSeq t (tRet te) { nx := fun _ H' => Q .non H', rt := Q } (L2.start N vs) H := by
  obtain ⟨M, ds, al, r, pre, q⟩ := hs
  have hl := r.length
  have c : Ctx ⟨K, none, M, H, E, 0, []⟩ M (L2.start N vs) H (slots N ds) := by
    refine ⟨al, al, fun _ h => h, StepB.refl _ _, ⟨fun b z => (nomatch z), fun a h => (nomatch h)⟩, ?_, ?_, fun i j p es fs h1 h2 => absurd h1 no_own, fun i p es h => absurd h no_own⟩
    · unfold L2.start slots
      rw [List.length_append, List.length_append, List.length_map, List.length_map, List.length_replicate, List.length_replicate, hl]
    · unfold L2.start slots
      rw [hl]
      exact sl_base rfl _ r
  refine hb M ds pre hl.symm M _ H _ c (fun M' σ' H' δ' p c' s => ?_) (fun _ _ _ _ _ _ p => p.elim) (fun _ _ _ _ p => p.elim) (fun _ _ _ _ p => p.elim)
  refine p M' σ' H' _ c' fun p' us es H2 pd c2 hp h0 hb' no e h1 r2 => ?_
  have h0' : H p' = none := h0
  refine q p' us es H2 pd h0' (fun a o h => c2.fr a o (mv_none rfl rfl a) h) h1 (r2.mono (same_hd_le fun a h => ?_))
  by_cases ea : a = p'
  · subst ea
    exact hid_same
  · rw [hid_ne ea] at h ⊢
    exact c'.m0 a h
theorem enterN1 (hs : spN K Pre Post vs H Q E) (hb : ∀ (M : Addr → Bool) (ds : List D), Pre ds → ds.length = vs.length → EvN ⟨K, none, M, H, E, 0, []⟩ te (slots N ds) (Post ds)) :
    tRet te { nx := fun _ H' => Q .non H', rt := Q } (L2.start N vs) H := by
  have := enterN (t := tNext) (te := te) hs (fun M ds pre hl => do_next (hb M ds pre hl))
  exact this
end
end Pf

namespace Pf
open PySem L2 RZ
/-! ### the layer's rules with the written part K named: in a comprehension's block its name would be the block's -/
section
variable {X : Cx} {tg e e2 o value : Expr} {te to ta tv : TE} {t : TA} {pos p apos cpos : Pos}
theorem ixL (K : PySem.W.Frag) (h : X.K = K := by rfl) : IxR X (rIxL K) := by subst h; exact ix_list
theorem ixT (K : PySem.W.Frag) (h : X.K = K := by rfl) : IxR X (rIxT K) := by subst h; exact ix_tup
theorem ixA (K : PySem.W.Frag) (h : X.K = K := by rfl) : IxR X (rIx K) := by subst h; exact ix_seq
theorem slL (K : PySem.W.Frag) (h : X.K = K := by rfl) : SlR X (rSlL K) := by subst h; exact sl_list
theorem slT (K : PySem.W.Frag) (h : X.K = K := by rfl) : SlR X (rSlT K) := by subst h; exact sl_tup
def rLenK (K : PySem.W.Frag) : List V → Hp → VK → Prop := fun xs H Q => ∃ x n, xs = [x] ∧ LenV K x H n ∧ Q (.int (n : Nat)) H
theorem callLen (K : PySem.W.Frag) (h : X.K = K := by rfl) : CallR X (.builtin "len") (rLenK K) := by subst h; exact call_len
theorem callIsi (K : PySem.W.Frag) (h : X.K = K := by rfl) : CallR X (.builtin "isinstance") (rIsi K) := by subst h; exact call_isi
theorem callIsiT (K : PySem.W.Frag) (h : X.K = K := by rfl) : CallR X (.builtin "isinstance") (rIsiT K) := by subst h; exact call_isiT
def rListK (K : PySem.W.Frag) : List V → Hp → VK → Prop := fun xs H Q => ∃ p ys, xs = [.ref p] ∧ (SqL K H p ys ∨ SqT K H p ys) ∧ ∀ l, H l = none → Q (.ref l) (upd H l (.lst ys))
theorem callList (K : PySem.W.Frag) (h : X.K = K := by rfl) : CallR X (.type "list") (rListK K) := by subst h; exact call_list_of
def rTupleK (K : PySem.W.Frag) : List V → Hp → VK → Prop := fun xs H Q => ∃ p ys, xs = [.ref p] ∧ ((SqL K H p ys ∧ ∀ l, H l = none → Q (.ref l) (upd H l (.tup ys))) ∨ (SqT K H p ys ∧ Q (.ref p) H))
theorem callTuple (K : PySem.W.Frag) (h : X.K = K := by rfl) : CallR X (.type "tuple") (rTupleK K) := by subst h; exact call_tuple_of
theorem callAll (K : PySem.W.Frag) (hc : X.calm = true := by rfl) (h : X.K = K := by rfl) : CallR X (.builtin "all") (rAll K) := by subst h; exact cr_all hc
theorem callAny (K : PySem.W.Frag) (hc : X.calm = true := by rfl) (h : X.K = K := by rfl) : CallR X (.builtin "any") (rAny K) := by subst h; exact cr_any hc
theorem opIn (K : PySem.W.Frag) (h : X.K = K := by rfl) : OpR X (compareOp .In) (rIn K false) := by subst h; exact op_in_seq
theorem opNotIn (K : PySem.W.Frag) (h : X.K = K := by rfl) : OpR X (compareOp .NotIn) (rIn K true) := by subst h; exact op_notIn_seq
theorem opEqD (K : PySem.W.Frag) (hu : X.A.units + 64 < cLine) (h : X.K = K := by rfl) : OpR X (compareOp .Eq) (rEqD K) := by subst h; exact op_eqD hu
theorem opNeD (K : PySem.W.Frag) (hu : X.A.units + 64 < cLine) (h : X.K = K := by rfl) : OpR X (compareOp .NotEq) (rNeD K) := by subst h; exact op_neD hu
theorem piL (K : PySem.W.Frag) (hl : PE X e te) (h : X.K = K := by rfl) : PI X tg e (iList K te) := by subst h; exact pi_list hl
theorem piT (K : PySem.W.Frag) (hl : PE X e te) (h : X.K = K := by rfl) : PI X tg e (iTup K te) := by subst h; exact pi_tup hl
theorem pgTup (K : PySem.W.Frag) {es : List Expr} {k : Nat} {ts : TGs} {n : Nat} (hc : X.calm = true) (hh : PGs X es ts)
    (hn : (assignEach es X.env).length = n := by rfl) (hst : (assignEach es X.env).findIdx? (·.1) = none := by rfl) (h : X.K = K := by rfl) : PG X (.Tuple es k pos) (gTup K n ts) := by subst h; exact pg_tup hc hh hn hst
theorem peFld (K : PySem.W.Frag) {f : Str} (he : PE X e te) (hb : attributeBase e f X.env (eval e X.env) = eval e X.env) (h : X.K = K := by rfl) : PE X (.Attribute e f pos) (tFld K te f) := by subst h; exact pe_fld he hb
end
/-! ### a call by keywords alone -/
section
variable {X : Cx} {CX : CXT} {k : Nat} {f : Addr} {fd : FuncData} {ps ks : List Str} {sp : Sp} {E : XK} {x : Str} {p pos : Pos} {kws : List Keyword} {tk : TA} {g : List Value → List Value → List Value} {gV : List V → List V → List V}
theorem pe_callK0 (F : FnOk X.prog X.w X.K X.mg X.base CX k f fd ps sp) (hr : Room k X.A) (hg : Gl X x) (hm : X.mg x = some (.ref f)) (hk : PySem.W.keepIn X.K (.ref f) = true) (hb : KBinds X.K fd ps ks g gV) (hx : Passes CX X E)
    (hkw : PK X kws tk) (hall : (backToKw pos (keywordEach kws X.env)).all (·.1.isSome) = true := by rfl) (hks : (backToKw pos (keywordEach kws X.env)).filterMap (·.1) = ks := by rfl)
    (hdb : (x == ("__debug__" : Str)) = false := by decide)
    (hpl : ((backTo pos (starEach [] X.env)).any (·.1) || (backToKw pos (keywordEach kws X.env)).any (·.1.isNone)) = false := by rfl) :
    PE X (.Call (.Name x p) [] kws pos) (tCallK sp gV E tNil tk) := by
  refine ⟨fun pins s σ H Q I h => ?_⟩
  refine wpAny_Call_Name_kw (ld_glob I hg hm ?_ hdb)
  refine PySem.W.callWith_KW0 (h₀ := X.base) I.ok.mod.kin hk hall ?_ hpl
  refine thn (hkw.run pos pins s σ H _ I h) fun ws s2 ⟨zs, H2, I2, rz, q2⟩ => ⟨I2.kIn, ?_⟩
  rw [hks]
  exact run_fnk (us := []) (vs := []) F hr hb hx I2 .nil rz q2
end
section
variable {F : Fm} {δ : List SD} {ta tk : TA} {P : D → Prop} {Pre : List D → Prop} {Post : List D → D → Prop} {E : XK} {gV : List V → List V → List V} {gD : List D → List D → List D}
theorem ev_callK (hg : ∀ (H : Hp) (vs zs : List V) (ds es : List D), RepL F.K H vs ds → RepL F.K H zs es → RepL F.K H (gV vs zs) (gD ds es))
    (h : EvA F ta δ fun ds => EvA F tk δ fun es => Pre (gD ds es) ∧ ∀ d, Post (gD ds es) d → P d) : Ev F (tCallK (spD F.K Pre Post) gV E ta tk) δ P := fun M σ H Q c q =>
  h M σ H _ c fun vs ds H1 p c1 e1 r => p M σ H1 _ c1 fun zs es H2 p2 c2 e2 r2 =>
    ⟨M, gD ds es, c2.al, hg _ _ _ _ _ (r.mono (hd_step c1 e2)) r2, p2.1, fun v d H3 pd s r3 => q v d H3 (p2.2 d pd) (c2.same s) ((e1.trans e2).trans (StepB.of s)) r3⟩
end
section
variable {K : PySem.W.Frag} {P : D → Prop} {x : D} {F : Fm} {δ : List SD} {te : TE}
theorem cd_lenK {k : Nat} (h : lenD x = some k) (hz : k ≤ 100000) (p : P (.int (k : Int))) : CallD K (rLenK K) [x] P := cd_len h hz p
/-- list(x): a new list of the same items -/
theorem en_listOf {PL : List D → Prop} (h : Ev F te δ fun d => ∃ xs, (d = .lst xs ∨ d = .tup xs) ∧ PL xs) : EvN F (tCB (rListK F.K) (tCons te tNil)) δ PL := fun M σ H Q c q =>
  h M σ H _ c fun v d H1 p c1 e1 r => by
    obtain ⟨xs, hd', pz⟩ := p
    have key : ∀ (a : Addr) (vs : List V), (SqL F.K H1 a vs ∨ SqT F.K H1 a vs) → RepL F.K (hd M H1) vs xs → rListK F.K [.ref a] H1 Q := fun a vs hs hr => by
      refine ⟨a, vs, rfl, hs, fun p hp => ?_⟩
      have hp0 : H p = none := by
        cases z : H p with
        | none => rfl
        | some o =>
          have := e1 p o (c1.nob hp) z
          rw [hp] at this
          cases this
      refine q p vs xs _ pz (c1.hide hp) hp0 (c1.h0 hp) (c1.nob hp) (c1.nown hp) (e1.trans (StepB.of (same_new hp))) upd_same (hr.mono fun b u e => ?_)
      obtain ⟨m, h⟩ := hd_of e
      have n : b ≠ p := ne_of_none h hp
      exact hd_at (by rw [hid_ne n]; exact m) (by rw [upd_ne n]; exact h)
    rcases hd' with rfl | rfl
    · cases r with
      | lst h1 h2 => exact key _ _ (.inl (SqL.of (hd_of h1).2)) h2
    · cases r with
      | tup h1 h2 => exact key _ _ (.inr (same_tup (same_hd M H1) h1)) h2
end
end Pf

namespace Pf
open PySem L2 RZ PySem.Spec PyProof.Rows
/-! ### a sequence that is borrowed, walked and asked -/
/-- a list or a tuple -/
def iSeq (K : PySem.W.Frag) (tl : TE) : TI := fun σ H R => tl σ H fun x H1 => ∃ a xs, x = .ref a ∧ ((SqL K H1 a xs ∧ R (Itl K a) H1) ∨ (SqT K H1 a xs ∧ R (Itt K a) H1))
theorem piS {X : Cx} {tg l : Expr} {tl : TE} (K : PySem.W.Frag) (hl : PE X l tl) (hK : X.K = K := by rfl) : PI X tg l (iSeq K tl) := by
  subst hK
  refine ⟨fun pins s σ H R I h => ?_⟩
  refine thn (hl.run pins s σ H _ I h) fun v s1 ⟨x, H1, I1, r1, q1⟩ => ?_
  obtain ⟨a, xs, e, q⟩ := q1
  subst e
  cases r1
  have fp : ∀ b ∈ [s1.heap.objs.size], _ := fun b hb => by
    have e : b = s1.heap.objs.size := by simpa using hb
    subst e
    exact I1.fpOk (Nat.le_refl _) (I1.hok.fresh (Nat.le_refl _))
  rcases q with ⟨hq, q⟩ | ⟨hq, q⟩
  · obtain ⟨its, rv, p, hz⟩ := I1.list hq
    refine wpAny_pyIter_list p.isList ?_
    exact ⟨s1.heap.objs.size, [s1.heap.objs.size], _, _, H1, rfl, I1.kept (t' := s1.toks) fun b o e => Heap.get?_push_of_some _ e, turn_list a _, ⟨_, Heap.get?_push_size _ rfl, rfl, rfl⟩, fp, q⟩
  · obtain ⟨its, rv, p, hz⟩ := I1.tuple hq
    refine wpAny_pyIter_tuple (show s1.heap.IsTuple a its.toArray from p) ?_
    exact ⟨s1.heap.objs.size, [s1.heap.objs.size], _, _, H1, rfl, I1.kept (t' := s1.toks) fun b o e => Heap.get?_push_of_some _ e, turn_tuple a _, ⟨_, Heap.get?_push_size _ rfl, rfl, rfl⟩, fp, q⟩
section
variable {F : Fm} {δ : List SD} {M : Addr → Bool} {σ : L2.St} {H : Hp} {PX : List D → Prop} {ta : TA} {te : TE} {P : D → Prop}
theorem stepH0 (c : Ctx F M σ H δ) : StepB F.mv F.H0 H := c.fr
theorem walkD_sqL {a : Addr} {xs : List V} {ds : List D} (k : ∀ H', StepB F.mv F.H0 H' → SqL F.K H' a xs) (r : RepL F.K (hd M H) xs ds) : WalkD F (Itl F.K a) M H ds := by
  refine ⟨fun H => SqL F.K H a xs, YAt xs, by rw [← r.length]; exact walk_list, fun M2 H2 _ e => k H2 e, fun M2 H2 i x H3 al e y => ?_⟩
  obtain ⟨rfl, y⟩ := y
  obtain ⟨d, h1, h2⟩ := r.getV y
  exact ⟨Same.refl _, d, h1, h2.mono e⟩
theorem walkD_sqT {a : Addr} {xs : List V} {ds : List D} (k : ∀ H', StepB F.mv F.H0 H' → SqT F.K H' a xs) (r : RepL F.K (hd M H) xs ds) : WalkD F (Itt F.K a) M H ds := by
  refine ⟨fun H => SqT F.K H a xs, YAt xs, by rw [← r.length]; exact walk_tup, fun M2 H2 _ e => k H2 e, fun M2 H2 i x H3 al e y => ?_⟩
  obtain ⟨rfl, y⟩ := y
  obtain ⟨d, h1, h2⟩ := r.getV y
  exact ⟨Same.refl _, d, h1, h2.mono e⟩
theorem walkD_enL {a : Addr} {vs : List V} {xs : List D} (k : ∀ H', StepB F.mv F.H0 H' → SqL F.K H' a vs) (h2 : RepL F.K (hd M H) vs xs) : WalkD F (Ite F.K a) M H (numbered xs) := by
  refine ⟨fun H => SqL F.K H a vs, YPair (fun i => some (.int (i : Nat))) (fun i => vs[i]?), ?_, fun M2 H2 _ e => k H2 e, fun M2 H2 i x H3 al e y => ?_⟩
  · have := walk_enum (K := F.K) (a := a) (xs := vs)
    rw [numbered_len, ← h2.length]
    exact this
  · obtain ⟨T, v, w, rfl, hT, rfl, e1, e2⟩ := y
    cases e1
    obtain ⟨f, e3, r2⟩ := h2.getV e2
    exact ⟨same_new hT, .tup [.int (i : Nat), f], numbered_get e3, pair_ok al hT (.int _) (r2.mono e)⟩
theorem walkD_enT {a : Addr} {vs : List V} {xs : List D} (k : ∀ H', StepB F.mv F.H0 H' → SqT F.K H' a vs) (h2 : RepL F.K (hd M H) vs xs) : WalkD F (IteT F.K a) M H (numbered xs) := by
  refine ⟨fun H => SqT F.K H a vs, YPair (fun i => some (.int (i : Nat))) (fun i => vs[i]?), ?_, fun M2 H2 _ e => k H2 e, fun M2 H2 i x H3 al e y => ?_⟩
  · have := walk_enumT (K := F.K) (a := a) (xs := vs)
    rw [numbered_len, ← h2.length]
    exact this
  · obtain ⟨T, v, w, rfl, hT, rfl, e1, e2⟩ := y
    cases e1
    obtain ⟨f, e3, r2⟩ := h2.getV e2
    exact ⟨same_new hT, .tup [.int (i : Nat), f], numbered_get e3, pair_ok al hT (.int _) (r2.mono e)⟩
theorem seq_keepL {K : PySem.W.Frag} {H H' : Hp} {p : Addr} {vs : List V} {B : Addr → Prop} (e : StepB B H H') (hb : ¬ B p) (h : SqL K H p vs) : SqL K H' p vs := by
  rcases h with (h | ⟨o, h⟩) | h
  · exact .inl (.inl (e _ _ hb h))
  · exact .inl (.inr ⟨o, e _ _ hb h⟩)
  · exact .inr h
theorem seq_keepT {K : PySem.W.Frag} {H H' : Hp} {p : Addr} {vs : List V} {B : Addr → Prop} (e : StepB B H H') (hb : ¬ B p) (h : SqT K H p vs) : SqT K H' p vs := by
  rcases h with (h | ⟨o, h⟩) | h
  · exact .inl (.inl (e _ _ hb h))
  · exact .inl (.inr ⟨o, e _ _ hb h⟩)
  · exact .inr h
theorem Ctx.sqAt (c : Ctx F M σ H δ) {i : Nat} {ds : List D} (h : δ[i]? = some (.sq ds)) : ∃ p vs, σ[i]? = some (some (.ref p)) ∧ ((∀ H', StepB F.mv F.H0 H' → SqL F.K H' p vs) ∨ (∀ H', StepB F.mv F.H0 H' → SqT F.K H' p vs)) ∧ RepL F.K (hd M H) vs ds := by
  obtain ⟨s, h1, p, vs, h2, h3, h4, h5⟩ := c.sl i _ h
  subst h2
  refine ⟨p, vs, h1, ?_, h5⟩
  rcases h4 with h4 | h4
  · exact .inl fun H' e => seq_keepL e h3 h4
  · exact .inr fun H' e => seq_keepT e h3 h4
theorem it_sq {i : Nat} {ds : List D} (hi : δ[i]? = some (.sq ds)) (p : PX ds) : ItD F (iSeq F.K (tVar i)) δ PX := fun M σ H R c q => by
  obtain ⟨a, vs, h1, h2, r⟩ := c.sqAt hi
  rcases h2 with h2 | h2
  · exact ⟨_, h1, a, vs, rfl, .inl ⟨h2 H c.fr, q _ ds H p c (StepB.refl _ _) (walkD_sqL h2 r)⟩⟩
  · exact ⟨_, h1, a, vs, rfl, .inr ⟨h2 H c.fr, q _ ds H p c (StepB.refl _ _) (walkD_sqT h2 r)⟩⟩
theorem it_enumSq {i : Nat} {ds : List D} (hi : δ[i]? = some (.sq ds)) (p : PX (numbered ds)) : ItD F (iEnumA F.K (tCons (tVar i) tNil)) δ PX := fun M σ H R c q => by
  obtain ⟨a, vs, h1, h2, r⟩ := c.sqAt hi
  rcases h2 with h2 | h2
  · exact ⟨_, h1, a, vs, rfl, .inl ⟨h2 H c.fr, q _ _ H p c (StepB.refl _ _) (walkD_enL h2 r)⟩⟩
  · exact ⟨_, h1, a, vs, rfl, .inr ⟨h2 H c.fr, q _ _ H p c (StepB.refl _ _) (walkD_enT h2 r)⟩⟩
theorem ev_lenSq {i : Nat} {ds : List D} (hi : δ[i]? = some (.sq ds)) (p : P (.int (ds.length : Int))) : Ev F (tCB (rLenK F.K) (tCons (tVar i) tNil)) δ P := fun M σ H Q c q => by
  obtain ⟨a, vs, h1, h2, r⟩ := c.sqAt hi
  refine ⟨_, h1, _, ds.length, rfl, ?_, q _ _ H p c (StepB.refl _ _) (.int _)⟩
  rcases h2 with h2 | h2
  · exact .inl ⟨_, h2 H c.fr, r.length.symm⟩
  · exact .inr ⟨_, h2 H c.fr, r.length.symm⟩
/-- the same of data that is a list -/
theorem it_seqL (h : Ev F te δ fun d => ∃ ds, d = .lst ds ∧ PX ds) : ItD F (iSeq F.K te) δ PX := fun M σ H R c q =>
  h M σ H _ c fun v d H1 p c1 e r => by
    obtain ⟨ds, rfl, p⟩ := p
    cases r with
    | lst h1 h2 => exact ⟨_, _, rfl, .inl ⟨SqL.of (hd_of h1).2, q _ ds H1 p c1 e (walkD_list h1 h2)⟩⟩
theorem it_enumL (h : Ev F te δ fun d => ∃ ds, d = .lst ds ∧ PX (numbered ds)) : ItD F (iEnumA F.K (tCons te tNil)) δ PX := fun M σ H R c q =>
  h M σ H _ c fun v d H1 p c1 e r => by
    obtain ⟨ds, rfl, p⟩ := p
    cases r with
    | @lst a vs _ h1 h2 =>
      refine ⟨_, _, rfl, .inl ⟨SqL.of (hd_of h1).2, q _ _ H1 p c1 e ⟨fun H => SqL F.K H a vs, YPair (fun i => some (.int (i : Nat))) (fun i => vs[i]?), ?_, fun M2 H2 e _ => (SqL.of (hd_of (e _ _ h1)).2 : SqL F.K H2 a vs), fun M2 H2 i x H3 al e y => ?_⟩⟩⟩
      · have := walk_enum (K := F.K) (a := a) (xs := vs)
        rw [numbered_len, ← h2.length]
        exact this
      · obtain ⟨T, v, w, rfl, hT, rfl, e1, e2⟩ := y
        cases e1
        obtain ⟨f, e3, r2⟩ := h2.getV e2
        exact ⟨same_new hT, .tup [.int (i : Nat), f], numbered_get e3, pair_ok al hT (.int _) (r2.mono e)⟩
end
/-! ### more operations -/
def rIns : V → List V → Hp → VK → Prop := fun x vs H Q => ∃ (l : Addr) (xs : List V) (i : Int) (y : V), x = .ref l ∧ vs = [.int i, y] ∧ H l = some (.lst xs) ∧ xs.length < sizeLine ∧ 0 ≤ i ∧ i < 2 ^ 63 ∧
    Q .non (upd H l (.lst (xs.take i.toNat ++ [y] ++ xs.drop i.toNat)))
section
variable {F : Fm} {δ : List SD} {te tv : TE} {R : PD} {P : D → Prop}
theorem do_insert {i : Nat} {p : Addr} {ds : List D} (hi : δ[i]? = some (.own p (.lst ds))) (hl : ds.length < 100000) (h : Ev F te δ fun x => ∃ n : Int, x = .int n ∧ 0 ≤ n ∧ n < 2 ^ 63 ∧ Ev F tv δ fun y => R.nx (δ.set i (.own p (.lst (ds.take n.toNat ++ [y] ++ ds.drop n.toNat))))) :
    Do F (tDrop (tBM F.K "list" rIns (tVar i) (tCons te (tCons tv tNil)))) δ R := fun M σ H E c a b k d => by
  obtain ⟨y, h1, hy, m, ho, h3, r0⟩ := c.sl i _ hi
  subst hy
  cases r0 with
  | @lst ws _ r0 =>
  refine ⟨_, h1, .inl ⟨rfl, ws, SqL.of h3⟩, ?_⟩
  refine h M σ H _ c fun v x H1 p1 c1 e1 r1 => ?_
  obtain ⟨n, rfl, n0, n1, p1⟩ := p1
  cases r1
  refine p1 M σ H1 _ c1 fun w z H2 p2 c2 e2 r2 => ?_
  have h4 := (e1.trans e2) p _ (c.oh i p _ hi).2 h3
  have s := (hd_step c e1).trans (hd_step c1 e2)
  refine ⟨p, ws, n, w, rfl, rfl, h4, by rw [r0.length]; exact sz_lt hl, n0, n1, ?_⟩
  have r3 := r0.mono s
  refine a M σ _ _ p2 (c2.put hi (.lst (((r3.take n.toNat).append (RepL.one r2)).append (r3.drop n.toNat)))) ?_
  rw [hd_upd m]
  exact s
/-- a constant of a class -/
theorem ev_cval {C : Addr} {mc : Value} {f : Str} {n : Int} {u : Value} (cr : ClX.CRead F.K C mc) (cv : ClX.CVal F.K C mc f (.int n) u) (p : P (.int n)) (h : Ev F te δ fun d => d = .adr C) : Ev F (ClX.tCVal F.K te f) δ P := fun M σ H Q c q =>
  h M σ H _ c fun v x H1 p1 c1 e1 r1 => by
    subst p1
    cases r1
    exact ⟨C, mc, .int n, u, rfl, cr, cv, q _ _ H1 p c1 e1 (.int n)⟩
end
section
variable {K : PySem.W.Frag} {P : D → Prop}
/-- an int among ints -/
theorem od_inInts {i : Int} {ns : List Int} {t : Bool} (p : P (.bl (decide (i ∈ ns)))) : OpD K (rIn K false) (.int i) (if t then .tup (ns.map .int) else .lst (ns.map .int)) P := fun M H v w Q al r1 r2 q => by
  cases r1
  have key : ∀ {vs : List V} {ns : List Int}, RepL K (hd M H) vs (ns.map .int) → vs = ns.map V.int := by
    intro vs ns
    induction ns generalizing vs with
    | nil =>
      intro r
      cases r
      rfl
    | cons n ns ih =>
      intro r
      cases r with
      | cons r rs =>
        cases r
        rw [List.map_cons, ← ih rs]
  have fl : ∀ ns : List Int, ((ns.map V.int).all flatV) = true := fun ns => by
    rw [List.all_eq_true]
    intro x hx
    obtain ⟨n, _, rfl⟩ := List.mem_map.mp hx
    rfl
  have iv : ∀ ns : List Int, inV (.int i) (ns.map V.int) = decide (i ∈ ns) := fun ns => by
    induction ns with
    | nil => rfl
    | cons n ns ih =>
      have e : eqV (.int n) (.int i) = decide (i = n) := by
        show (n == i) = _
        rw [Bool.beq_eq_decide_eq]
        simp [eq_comm]
      show (eqV (.int n) (.int i) || inV (.int i) (ns.map V.int)) = _
      rw [e, ih]
      simp [List.mem_cons]
  cases t with
  | true =>
    simp only [if_true] at r2
    cases r2 with
    | tup h1 h2 =>
      have e := key h2
      subst e
      exact ⟨_, _, rfl, .inr (same_tup (same_hd M H) h1), rfl, fl ns, by rw [iv]; exact q _ _ H p (Same.refl H) (.bl _)⟩
  | false =>
    simp only [Bool.false_eq_true, if_false] at r2
    cases r2 with
    | lst h1 h2 =>
      have e := key h2
      subst e
      exact ⟨_, _, rfl, .inl (SqL.of (hd_of h1).2), rfl, fl ns, by rw [iv]; exact q _ _ H p (Same.refl H) (.bl _)⟩
theorem cd_max2 {i j : Int} {r : List V → Hp → VK → Prop} (hr : ∀ xs H Q, (∃ i j, xs = [V.int i, .int j] ∧ Q (.int (if j > i then j else i)) H) → r xs H Q) (p : P (.int (if j > i then j else i))) : CallD K r [.int i, .int j] P := fun M H vs Q al r1 q => by
  cases r1 with
  | cons r1 r2 =>
    cases r2 with
    | cons r2 r3 =>
      cases r3
      cases r1
      cases r2
      exact hr _ _ _ ⟨i, j, rfl, q _ _ H p (Same.refl H) (.int _)⟩
theorem cd_strI {i : Int} {r : List V → Hp → VK → Prop} (hr : ∀ xs H Q, (∃ i, xs = [V.int i] ∧ i.natAbs.log2 < 1920 ∧ Q (.str (toString i)) H) → r xs H Q) (hz : i.natAbs.log2 < 1920) (p : P (.str (toString i))) : CallD K r [.int i] P := fun M H vs Q al r1 q => by
  cases r1 with
  | cons r1 r2 =>
    cases r2
    cases r1
    exact hr _ _ _ ⟨i, rfl, hz, q _ _ H p (Same.refl H) (.str _)⟩
/-- == and != of data at any depth -/
theorem od_eqD {x y : D} (px : plainD x = true) (py : plainD y = true) (sx : SeqAt.shaped (pyd x) = true) (sy : SeqAt.shaped (pyd y) = true) (p : P (.bl (PyData.eqv (pyd x) (pyd y)))) : OpD K (rEqD K) x y P := fun M H v w Q al r1 r2 q =>
  ⟨_, _, rep_dp (r1.mono (same_hd M H)) px, rep_dp (r2.mono (same_hd M H)) py, sx, sy, q _ _ H p (Same.refl H) (.bl _)⟩
theorem od_neD {x y : D} (px : plainD x = true) (py : plainD y = true) (sx : SeqAt.shaped (pyd x) = true) (sy : SeqAt.shaped (pyd y) = true) (p : P (.bl (!PyData.eqv (pyd x) (pyd y)))) : OpD K (rNeD K) x y P := fun M H v w Q al r1 r2 q =>
  ⟨_, _, rep_dp (r1.mono (same_hd M H)) px, rep_dp (r2.mono (same_hd M H)) py, sx, sy, q _ _ H p (Same.refl H) (.bl _)⟩
end
/-! f-strings -/
section
variable {F : Fm} {δ : List SD} {te : TE} {P : D → Prop} {PS : Str → Prop}
theorem ev_fmtI (h : Ev F te δ fun d => ∃ i : Int, d = .int i ∧ i.natAbs.log2 < 1920 ∧ P (.str (toString i))) : Ev F (tFmt te) δ P := fun M σ H Q c q =>
  h M σ H _ c fun v x H1 p1 c1 e1 r1 => by
    obtain ⟨i, rfl, hz, p⟩ := p1
    cases r1
    exact .inr ⟨i, rfl, hz, q _ _ H1 p c1 e1 (.str _)⟩
theorem ev_fmtS (h : Ev F te δ fun d => ∃ z : Str, d = .str z ∧ z.length ≤ 100000 ∧ P (.str z)) : Ev F (tFmt te) δ P := fun M σ H Q c q =>
  h M σ H _ c fun v x H1 p1 c1 e1 r1 => by
    obtain ⟨z, rfl, hz, p⟩ := p1
    cases r1
    exact .inl ⟨z, rfl, sz_of hz, q _ _ H1 p c1 e1 (.str _)⟩
def EvJ (F : Fm) (ts : List TE) (acc : Str) (δ : List SD) (P : Str → Prop) : Prop := ∀ M σ H (Q : Str → Hp → Prop), Ctx F M σ H δ → (∀ z H', P z → Ctx F M σ H' δ → StepB F.mv H H' → Q z H') → tJs ts acc σ H Q
theorem ej_nil {acc : Str} (p : PS acc) : EvJ F [] acc δ PS := fun M σ H Q c q => q acc H p c (StepB.refl _ _)
theorem ej_cons {ts : List TE} {acc : Str} (h : Ev F te δ fun d => ∃ z : Str, d = .str z ∧ (acc ++ z).length ≤ 100000 ∧ EvJ F ts (acc ++ z) δ PS) : EvJ F (te :: ts) acc δ PS := fun M σ H Q c q =>
  h M σ H _ c fun v x H1 p1 c1 e1 r1 => by
    obtain ⟨z, rfl, hz, p⟩ := p1
    cases r1
    exact ⟨z, rfl, sz_of hz, p M σ H1 Q c1 fun y H2 py c2 e2 => q y H2 py c2 (e1.trans e2)⟩
theorem ev_joined {ts : List TE} (h : EvJ F ts Str.empty δ fun z => P (.str z)) : Ev F (fun σ H Q => tJs ts Str.empty σ H fun out H1 => Q (.str out) H1) δ P := fun M σ H Q c q =>
  h M σ H _ c fun z H1 p c1 e => q _ _ H1 p c1 e (.str _)
end
end Pf
namespace Pf
open PySem L2 RZ PySem.Spec PyProof.Rows
theorem peCval {X : Cx} {e : Expr} {f : Str} {pos : Pos} {ta : TE} (K : PySem.W.Frag) (he : PE X e ta) (hb : attributeBase e f X.env (eval e X.env) = eval e X.env := by rfl) (hK : X.K = K := by rfl) : PE X (.Attribute e f pos) (ClX.tCVal K ta f) := by
  subst hK; exact ClX.pe_cval he hb
end Pf

namespace Pf
open PySem L2 RZ PySem.Spec PyProof.Rows
/-! a def of one sequence that is only read -/
def spS (K : PySem.W.Frag) (Pre : List D → Prop) (Post : List D → D → Prop) : Sp := fun vs H Q _ => ∃ (M : Addr → Bool) (p : Addr) (us : List V) (es : List D), vs = [.ref p] ∧ Al M H ∧ (SqL K H p us ∨ SqT K H p us) ∧ RepL K (hd M H) us es ∧ Pre es ∧
  ∀ v d H', Post es d → Same H H' → Rep K (hd M H') v d → Q v H'
section
variable {K : PySem.W.Frag} {N : List Str} {vs : List V} {H : Hp} {Q : VK} {E : XK} {t : TS} {Pre : List D → Prop} {Post : List D → D → Prop}
theorem enterS (hs : spS K Pre Post vs H Q E) (hb : ∀ (M : Addr → Bool) (es : List D), Pre es → Do ⟨K, none, M, H, E, 0, []⟩ t (.sq es :: List.replicate (N.length - 1) .un) { nx := fun _ => Post es .non, rt := Post es }) :
    t { nx := fun _ H' => Q .non H', rt := Q } (L2.start N vs) H := by
  obtain ⟨M, p, us, es, rfl, al, hq, r, pre, q⟩ := hs
  have nown : ∀ {i : Nat} {p : Addr} {o : OD}, (SD.sq es :: List.replicate (N.length - 1) .un)[i]? ≠ some (.own p o) := fun h => by
    have := List.mem_of_getElem? h
    rcases List.mem_cons.mp this with h | h
    · cases h
    · cases List.eq_of_mem_replicate h
  have c : Ctx ⟨K, none, M, H, E, 0, []⟩ M (L2.start N [.ref p]) H (.sq es :: List.replicate (N.length - 1) .un) := by
    refine ⟨al, al, fun _ h => h, StepB.refl _ _, ⟨fun b z => (nomatch z), fun a h => (nomatch h)⟩, ?_, fun i x h => ?_, fun i j p es fs h1 h2 => absurd h1 nown, fun i p es h => absurd h nown⟩
    · unfold L2.start
      simp
    · unfold L2.start
      cases i with
      | zero =>
        have e : SD.sq es = x := by simpa using h
        subst e
        exact ⟨_, rfl, p, us, rfl, mv_none rfl rfl _, hq, r⟩
      | succ i =>
        have h' : (List.replicate (N.length - 1) SD.un)[i]? = some x := by simpa using h
        have hx : x = .un := List.eq_of_mem_replicate (List.mem_of_getElem? h')
        have hlt := (List.getElem?_eq_some_iff.mp h').1
        rw [List.length_replicate] at hlt
        subst hx
        refine ⟨none, ?_, trivial⟩
        show (List.replicate (N.length - 1) none)[i]? = some none
        rw [List.getElem?_replicate, if_pos hlt]
  refine hb M es pre M _ H _ c (fun M' σ' H' δ' p c' s => ?_) (fun v d M' σ' H' δ' p c' s r' => ?_) (fun _ _ _ _ p => p.elim) (fun _ _ _ _ p => p.elim)
  · exact q _ _ H' p (fun a o h => c'.fr a o (mv_none rfl rfl a) h) .non
  · exact q v d H' p (fun a o h => c'.fr a o (mv_none rfl rfl a) h) (r'.mono (same_hd_le fun a h => c'.m0 a h))
end
section
variable {F : Fm} {δ : List SD} {P : D → Prop} {Pre : List D → Prop} {Post : List D → D → Prop} {E : XK}
theorem ev_callS {i : Nat} {es : List D} (hi : δ[i]? = some (.sq es)) (pre : Pre es) (po : ∀ d, Post es d → P d) : Ev F (tCall (spS F.K Pre Post) [] E (tCons (tVar i) tNil)) δ P := fun M σ H Q c q => by
  obtain ⟨a, vs, h1, hs, hr, _⟩ := c.getSq hi
  refine ⟨_, h1, ?_⟩
  show spS F.K Pre Post ([V.ref a] ++ []) H Q E
  rw [List.append_nil]
  exact ⟨M, a, vs, es, rfl, c.al, hs, hr, pre, fun v d H' pd s r => q v d H' (po d pd) (c.same s) (StepB.of s) r⟩
end
theorem spS_len {K : PySem.W.Frag} {Pre : List D → Prop} {Post : List D → D → Prop} : ∀ vs H Q E, spS K Pre Post vs H Q E → vs.length = 1 := fun vs H Q E ⟨M, p, us, es, e, _⟩ => by rw [e]; rfl
theorem spIS_len {K : PySem.W.Frag} {C : Addr} {Pre : List D → List D → Prop} {Post : List D → List D → List (Str × D) → Prop} {n : Nat} (h : ∀ ds es, Pre ds es → ds.length + 2 = n) : ∀ vs H Q E, spIS K C Pre Post vs H Q E → vs.length = n := fun vs H Q E ⟨M, H1, x, dx, ws, ds, p, us, es, e, _, _, _, _, _, r, _, _, pre, _⟩ => by
  rw [e]
  simp only [List.length_cons, List.length_append, List.length_nil, r.length]
  exact h ds es pre
theorem spN_len {K : PySem.W.Frag} {Pre : List D → Prop} {Post : List D → List D → Prop} {n : Nat} (h : ∀ ds, Pre ds → ds.length = n) : ∀ vs H Q E, spN K Pre Post vs H Q E → vs.length = n := fun vs H Q E ⟨M, ds, _, r, p, _⟩ => by rw [r.length, h ds p]
end Pf

namespace Pf
open PySem L2 RZ PySem.Spec PyProof.Rows
/-- texts -/
def txsD (zs : List Str) : List D := zs.map .str
theorem repL_strs {K : PySem.W.Frag} {H : Hp} : ∀ {vs : List V} {zs : List Str}, RepL K H vs (txsD zs) → vs = zs.map V.str
  | _, [], .nil => rfl
  | _, b :: bs, .cons (.str _) r => by rw [List.map_cons, repL_strs (zs := bs) r]
/-! ### an __init__ with a sequence in the middle, keyword-only parameters behind -/
def spIM (K : PySem.W.Frag) (C : Addr) (Pre : List D → List D → List D → Prop) (Post : List D → List D → List D → List (Str × D) → Prop) : Sp := fun vs H Q _ => ∃ (M : Addr → Bool) (H1 : Hp) (x dx : Addr) (ws : List V) (ds : List D) (p : Addr) (us : List V) (es : List D) (zs : List V) (gs : List D), vs = .ref x :: (ws ++ .ref p :: zs) ∧ H1 x = none ∧ H1 dx = none ∧ dx ≠ x ∧
  H = upd (upd H1 dx (.own x)) x (.ins C dx []) ∧ Al M H1 ∧ RepL K (hd M H1) ws ds ∧ (SqL K H1 p us ∨ SqT K (hd M H1) p us) ∧ RepL K (hd M H1) us es ∧ RepL K (hd M H1) zs gs ∧ Pre ds es gs ∧ ∀ H2 fs, Post ds es gs fs → Same H1 H2 → Rep K (hd M H2) (.ref x) (.ins C fs) → Q .non H2
theorem spIM_len {K : PySem.W.Frag} {C : Addr} {Pre : List D → List D → List D → Prop} {Post : List D → List D → List D → List (Str × D) → Prop} {n : Nat} (h : ∀ ds es gs, Pre ds es gs → ds.length + gs.length + 2 = n) : ∀ vs H Q E, spIM K C Pre Post vs H Q E → vs.length = n := fun vs H Q E ⟨M, H1, x, dx, ws, ds, p, us, es, zs, gs, e, _, _, _, _, _, r, _, _, rz, pre, _⟩ => by
  rw [e]
  simp only [List.length_cons, List.length_append, r.length, rz.length]
  have := h ds es gs pre
  omega
section
variable {K : PySem.W.Frag} {N : List Str} {vs : List V} {H : Hp} {Q : VK} {E : XK} {t : TS} {C : Addr}
theorem enterIM {Pre : List D → List D → List D → Prop} {Post : List D → List D → List D → List (Str × D) → Prop} (hs : spIM K C Pre Post vs H Q E)
    (hb : ∀ (M : Addr → Bool) (H1 : Hp) (x : Addr) (ds es gs : List D) (X : SD), Pre ds es gs → ds.length + gs.length + 2 = vs.length → (X = .sl es ∨ X = .dat (.tup es)) → Do ⟨K, none, M, H1, E, 0, []⟩ t (slotsI N x C (ds.map .dat ++ X :: gs.map .dat)) { nx := fun δ' => ∃ fs, δ'[0]? = some (.own x (.ins C fs)) ∧ Post ds es gs fs }) :
    t { nx := fun _ H' => Q .non H', rt := Q } (L2.start N vs) H := by
  obtain ⟨M, H1, x, dx, ws, ds, p, us, es, zs, gs, rfl, hx, hdx, ne, rfl, al, r, hq, rq, rz, pre, q⟩ := hs
  have hl := r.length
  have hlz := rz.length
  have s1 := same_made (C := C) hx hdx
  obtain ⟨X, hX, hXs, hXn⟩ : ∃ X : SD, (X = .sl es ∨ X = .dat (.tup es)) ∧ SlotOk ⟨K, none, M, H1, E, 0, []⟩ (hid M x) (upd (upd H1 dx (.own x)) x (.ins C dx [])) (some (.ref p)) X ∧ ∀ p o, X ≠ .own p o := by
    rcases hq with hq | hq
    · exact ⟨.sl es, .inl rfl, ⟨p, us, rfl, mv_none rfl rfl _, hq, rq.mono (hid_mono hx s1)⟩, fun p o e => by cases e⟩
    · exact ⟨.dat (.tup es), .inr rfl, ⟨_, rfl, .tup (same_tup (hid_mono hx s1) hq) (rq.mono (hid_mono hx s1))⟩, fun p o e => by cases e⟩
  have split : ∀ (i : Nat) (y : SD), (ds.map SD.dat ++ X :: gs.map SD.dat)[i]? = some y → (∃ v, (ws ++ .ref p :: zs)[i]? = some v ∧ SlotOk ⟨K, none, M, H1, E, 0, []⟩ (hid M x) (upd (upd H1 dx (.own x)) x (.ins C dx [])) (some v) y) ∧ ∀ p o, y ≠ .own p o := fun i y h => by
    by_cases hi : i < ds.length
    · rw [List.getElem?_append_left (by simpa using hi), List.getElem?_map] at h
      cases z : ds[i]? with
      | none => rw [z] at h; cases h
      | some d =>
        rw [z] at h
        cases h
        obtain ⟨v, g1, g2⟩ := r.get z
        exact ⟨⟨v, by rw [List.getElem?_append_left (by rw [hl]; exact hi)]; exact g1, v, rfl, g2.mono (hid_mono hx s1)⟩, fun p o e => by cases e⟩
    · have hi := Nat.le_of_not_lt hi
      rw [List.getElem?_append_right (by simpa using hi)] at h
      simp only [List.length_map] at h
      rw [List.getElem?_append_right (by rw [hl]; exact hi), hl]
      generalize i - ds.length = j at h
      cases j with
      | zero =>
        obtain rfl : X = y := by simpa using h
        exact ⟨⟨_, rfl, hXs⟩, hXn⟩
      | succ j =>
        have h' : (gs.map SD.dat)[j]? = some y := by simpa using h
        rw [List.getElem?_map] at h'
        cases z : gs[j]? with
        | none => rw [z] at h'; cases h'
        | some d =>
          rw [z] at h'
          cases h'
          obtain ⟨v, g1, g2⟩ := rz.get z
          exact ⟨⟨v, by simpa using g1, v, rfl, g2.mono (hid_mono hx s1)⟩, fun p o e => by cases e⟩
  have c := ctxI (K := K) (E := E) (C := C) (N := N) (ws := ws ++ .ref p :: zs) (sds := ds.map .dat ++ X :: gs.map .dat) hx hdx ne al (by simp [hl, hlz]) (fun i y h => (split i y h).1) (fun i p o h => (split i _ h).2 p o rfl)
  refine hb M H1 x ds es gs X pre (by simp [hl, hlz]; omega) hX _ _ _ _ c (fun M' σ' H' δ' pp c' s => ?_) (fun v d M' σ' H' δ' pp => pp.elim) (fun _ _ _ _ p => p.elim) (fun _ _ _ _ p => p.elim)
  obtain ⟨fs, h0, po⟩ := pp
  obtain ⟨g1, g2⟩ := leaveI hx al c' h0
  exact q H' fs po g1 g2
end
/-- a list as it was split in data -/
theorem repL_split {K : PySem.W.Frag} {H : Hp} : ∀ {ds : List D} {l : D} {gs : List D} {vs : List V}, RepL K H vs (ds ++ l :: gs) → ∃ ws u zs, vs = ws ++ u :: zs ∧ RepL K H ws ds ∧ Rep K H u l ∧ RepL K H zs gs
  | [], l, gs, _, .cons r1 r2 => ⟨[], _, _, rfl, .nil, r1, r2⟩
  | d :: ds, l, gs, _, .cons r1 r2 => by
    obtain ⟨ws, u, zs, rfl, g1, g2, g3⟩ := repL_split (ds := ds) r2
    exact ⟨_ :: ws, u, zs, rfl, .cons r1 g1, g2, g3⟩
section
variable {F : Fm} {δ : List SD} {ta tk : TA} {te : TE} {P : D → Prop} {C : Addr} {E : XK} {Pre : List D → List D → List D → Prop} {Post : List D → List D → List D → List (Str × D) → Prop}
/-- the sequence that is handed over: data, or a list of one's own -/
def SeqArg (δ : List SD) (l : D) (es : List D) : Prop := l = .lst es ∨ l = .tup es ∨ ∃ (i : Nat) (p : Addr), l = .adr p ∧ δ[i]? = some (SD.own p (.lst es))
theorem seqArg_at {M : Addr → Bool} {σ : L2.St} {H : Hp} {u : V} {l : D} {es : List D} (c : Ctx F M σ H δ) (h : SeqArg δ l es) (r : Rep F.K (hd M H) u l) : ∃ p us, u = .ref p ∧ (SqL F.K H p us ∨ SqT F.K (hd M H) p us) ∧ RepL F.K (hd M H) us es := by
  rcases h with rfl | rfl | ⟨i, p, rfl, hi⟩
  · cases r with
    | lst h1 h2 => exact ⟨_, _, rfl, .inl (SqL.of (hd_of h1).2), h2⟩
  · cases r with
    | tup h1 h2 => exact ⟨_, _, rfl, .inr h1, h2⟩
  · cases r
    obtain ⟨s, hs, e, m, ho, hp, rr⟩ := c.sl i _ hi
    cases rr with
    | @lst us _ rr => exact ⟨p, us, rfl, .inl (SqL.of hp), rr⟩
theorem ev_ownAdr {i : Nat} {p : Addr} {o : OD} (hi : δ[i]? = some (.own p o)) (h : P (.adr p)) : Ev F (tVar i) δ P := fun M σ H Q c q => by
  obtain ⟨s, hs, e, _⟩ := c.sl i _ hi
  subst e
  exact ⟨_, hs, q _ _ H h c (StepB.refl _ _) (.adr p)⟩
/-- C(e, .., k = v, ..) -/
theorem ev_makeMK {n m : Nat} {gV : List V → List V → List V} {gD : List D → List D → List D} (hg : ∀ (H : Hp) (vs zs : List V) (ds es : List D), RepL F.K H vs ds → RepL F.K H zs es → RepL F.K H (gV vs zs) (gD ds es))
    (h : EvA F ta δ fun ds => EvA F tk δ fun ks => ds.length = n ∧ ks.length = m ∧ ∃ ds0 l es gs, (∀ x, gD (.adr x :: ds) ks = .adr x :: (ds0 ++ l :: gs)) ∧ SeqArg δ l es ∧ Pre ds0 es gs ∧ ∀ fs, Post ds0 es gs fs → P (.ins C fs)) :
    Ev F (tMakeK C n m (spIM F.K C Pre Post) gV E ta tk) δ P := fun M σ H Q c q => by
  refine h M σ H _ c fun vs ds H1 p1 c1 e1 r1 => p1 M σ H1 _ c1 fun zs ks H2 p2 c2 e2 r2 => ?_
  obtain ⟨l1, l2, ds0, l, es, gs, hgd, hl, pre, po⟩ := p2
  refine ⟨by rw [r1.length, l1], by rw [r2.length, l2], fun x dx hx hdx ne => ?_⟩
  have r := hg _ (.ref x :: vs) zs (.adr x :: ds) ks (.cons (.adr x) (r1.mono (hd_step c1 e2))) r2
  rw [hgd x] at r
  generalize gV (.ref x :: vs) zs = ws at r
  cases r with
  | cons ra rb =>
    cases ra
    obtain ⟨w1, u, w2, rfl, g1, g2, g3⟩ := repL_split rb
    obtain ⟨p, us, rfl, hq, rq⟩ := seqArg_at c2 hl g2
    exact ⟨M, H2, x, dx, w1, ds0, p, us, es, w2, gs, rfl, hx, hdx, ne, rfl, c2.al, g1, hq, rq, g3, pre, fun H3 fs ps s rr => ⟨rfl, q _ _ H3 (po fs ps) (c2.same s) ((e1.trans e2).trans (StepB.of s)) rr⟩⟩
/-- C(e, ..), defaults behind -/
theorem ev_makeMD {dvs : List V} {dds : List D} (hd' : ∀ H, RepL F.K H dvs dds) (h : EvA F ta δ fun ds => ∃ ds0 l es gs, ds ++ dds = ds0 ++ l :: gs ∧ SeqArg δ l es ∧ Pre ds0 es gs ∧ ∀ fs, Post ds0 es gs fs → P (.ins C fs)) :
    Ev F (tMake C (spIM F.K C Pre Post) dvs E ta) δ P := fun M σ H Q c q =>
  h M σ H _ c fun vs ds H1 p1 c1 e1 r1 x dx hx hdx ne => by
    obtain ⟨ds0, l, es, gs, e, hl, pre, po⟩ := p1
    have r := r1.append (hd' (hd M H1))
    rw [e] at r
    obtain ⟨w1, u, w2, ew, g1, g2, g3⟩ := repL_split r
    obtain ⟨p, us, rfl, hq, rq⟩ := seqArg_at c1 hl g2
    rw [ew]
    exact ⟨M, H1, x, dx, w1, ds0, p, us, es, w2, gs, rfl, hx, hdx, ne, rfl, c1.al, g1, hq, rq, g3, pre, fun H3 fs ps s rr => ⟨rfl, q _ _ H3 (po fs ps) (c1.same s) (e1.trans (StepB.of s)) rr⟩⟩
/-! a sequence in a slot that is a borrowed list or a tuple of data -/
def SeqSlot (δ : List SD) (i : Nat) (es : List D) : Prop := δ[i]? = some (.sl es) ∨ δ[i]? = some (.dat (.tup es))
theorem Ctx.getSl {M : Addr → Bool} {σ : L2.St} {H : Hp} (c : Ctx F M σ H δ) {i : Nat} {ds : List D} (h : δ[i]? = some (.sl ds)) : ∃ p vs, σ[i]? = some (some (.ref p)) ∧ SqL F.K H p vs ∧ RepL F.K (hd M H) vs ds := by
  obtain ⟨s, h1, p, vs, h2, h3, h4, h5⟩ := c.sl i _ h
  subst h2
  exact ⟨p, vs, h1, seq_keepL c.fr h3 h4, h5⟩
theorem ev_tupSeq {i : Nat} {es : List D} (hi : SeqSlot δ i es) (p : P (.tup es)) : Ev F (tCB (rTupleK F.K) (tCons (tVar i) tNil)) δ P := fun M σ H Q c q => by
  rcases hi with hi | hi
  · obtain ⟨a, vs, h1, h2, r⟩ := c.getSl hi
    exact ⟨_, h1, a, vs, rfl, .inl ⟨h2, fun l hl => q _ _ _ p (c.same (same_new hl)) (StepB.of (same_new hl)) (.tup (SqT.of (hd_new c.al hl)) (r.mono (same_hdM (same_new hl))))⟩⟩
  · obtain ⟨v, h1, r⟩ := c.get hi
    cases r with
    | tup h2 h3 => exact ⟨_, h1, _, _, rfl, .inr ⟨same_tup (same_hd M H) h2, q _ _ H p c (StepB.refl _ _) (.tup h2 h3)⟩⟩
theorem ev_callSeq {Pre : List D → Prop} {Post : List D → D → Prop} {i : Nat} {es : List D} (hi : SeqSlot δ i es) (pre : Pre es) (po : ∀ d, Post es d → P d) : Ev F (tCall (spS F.K Pre Post) [] E (tCons (tVar i) tNil)) δ P := fun M σ H Q c q => by
  rcases hi with hi | hi
  · obtain ⟨a, vs, h1, h2, r⟩ := c.getSl hi
    refine ⟨_, h1, ?_⟩
    show spS F.K Pre Post ([V.ref a] ++ []) H Q E
    rw [List.append_nil]
    exact ⟨M, a, vs, es, rfl, c.al, .inl h2, r, pre, fun v d H' pd s r => q v d H' (po d pd) (c.same s) (StepB.of s) r⟩
  · obtain ⟨v, h1, r⟩ := c.get hi
    cases r with
    | @tup a vs _ h2 h3 =>
      refine ⟨_, h1, ?_⟩
      show spS F.K Pre Post ([V.ref a] ++ []) H Q E
      rw [List.append_nil]
      exact ⟨M, a, vs, es, rfl, c.al, .inr (same_tup (same_hd M H) h2), h3, pre, fun v d H' pd s r => q v d H' (po d pd) (c.same s) (StepB.of s) r⟩
/-- an item of a borrowed sequence -/
theorem ev_ixSq {i : Nat} {es : List D} {k : Int} {d : D} (hi : δ[i]? = some (.sq es)) (hk : atI es k = some d) (p : P d) : Ev F (tOp (rIx F.K) (tVar i) (tC (.int k))) δ P := fun M σ H Q c q => by
  obtain ⟨a, vs, h1, h2, r⟩ := c.sqAt hi
  obtain ⟨v, e, rv⟩ := repL_at r hk
  refine ⟨_, h1, ?_⟩
  rcases h2 with h2 | h2
  · exact .inl ⟨a, vs, k, v, rfl, rfl, h2 H c.fr, e, q v d H p c (StepB.refl _ _) rv⟩
  · exact .inr (.inl ⟨a, vs, k, v, rfl, rfl, h2 H c.fr, e, q v d H p c (StepB.refl _ _) rv⟩)
/-- a class constant that is a tuple of texts -/
theorem ev_ctup {mc : Value} {f : Str} {a : Addr} {u : Value} {zs : List Str} (cr : ClX.CRead F.K C mc) (cv : ClX.CVal F.K C mc f (.ref a) u) (sq : ∀ H, SqT F.K H a (zs.map V.str)) (p : P (.tup (txsD zs))) (h : Ev F te δ fun d => d = .adr C) : Ev F (ClX.tCVal F.K te f) δ P := fun M σ H Q c q =>
  h M σ H _ c fun v x H1 p1 c1 e1 r1 => by
    subst p1
    cases r1
    refine ⟨C, mc, .ref a, u, rfl, cr, cv, q _ _ H1 p c1 e1 (.tup (sq _) ?_)⟩
    have : ∀ zs : List Str, RepL F.K (hd M H1) (zs.map V.str) (txsD zs) := fun zs => by
      induction zs with
      | nil => exact .nil
      | cons z zs ih => exact .cons (.str z) ih
    exact this zs
/-- a, b = x, y -/
theorem do_par2 {tb : TE} {R : PD} {i j : Nat} (h : Ev F te δ fun x => Ev F tb δ fun y => R.nx ((δ.set i (.dat x)).set j (.dat y))) : Do F (tPar i j (tCons te (tCons tb tNil))) δ R := fun M σ H E c a b k d =>
  h M σ H _ c fun v x H1 p1 c1 e1 r1 => p1 M σ H1 _ c1 fun w y H2 p2 c2 e2 r2 =>
    ⟨v, w, rfl, a M _ H2 _ p2 ((c2.set i (r1.mono (hd_step c1 e2))).set j r2) ((hd_step c e1).trans (hd_step c1 e2))⟩
/-- list(range(n)) -/
theorem en_lstRg1 {PL : List D → Prop} (h : Ev F te δ fun d => ∃ n : Int, d = .int n ∧ 0 ≤ n ∧ n ≤ 1000 ∧ PL (upto 0 n.toNat)) : EvN F (tLstRg (tRg1 te)) δ PL := fun M σ H Q c q =>
  h M σ H _ c fun v d H1 p1 c1 e1 r1 => by
    obtain ⟨n, rfl, h0, h1, p⟩ := p1
    cases r1
    refine ⟨n, rfl, RgOk.of_le (by omega) (by omega) (by omega) (by omega), fun a ha => ?_⟩
    have ha0 : H a = none := by
      cases z : H a with
      | none => rfl
      | some o =>
        have := e1 a o (c1.nob ha) z
        rw [ha] at this
        cases this
    refine q a _ _ _ p (c1.hide ha) ha0 (c1.h0 ha) (c1.nob ha) (c1.nown ha) (e1.trans (StepB.of (same_new ha))) upd_same ?_
    have key : ∀ (H : Hp) (l : List Nat), RepL F.K H (l.map fun i => V.int (0 + (i : Nat))) (l.map fun i => D.int (0 + (i : Nat))) := fun H l => by
      induction l with
      | nil => exact .nil
      | cons x l ih => exact .cons (.int _) ih
    have e : (n - 0).toNat = n.toNat := by omega
    unfold rgV upto
    rw [e]
    exact key _ _
end
section
variable {K : PySem.W.Frag} {P : D → Prop}
/-- a text among texts -/
theorem od_inStrs {x : Str} {zs : List Str} {neg t : Bool} (p : P (.bl (if neg then !decide (x ∈ zs) else decide (x ∈ zs)))) : OpD K (rIn K neg) (.str x) (if t then .tup (txsD zs) else .lst (txsD zs)) P := fun M H v w Q al r1 r2 q => by
  cases r1
  have fl : ∀ ns : List Str, ((ns.map V.str).all flatV) = true := fun ns => by
    rw [List.all_eq_true]
    intro x hx
    obtain ⟨n, _, rfl⟩ := List.mem_map.mp hx
    rfl
  have iv : ∀ ns : List Str, inV (.str x) (ns.map V.str) = decide (x ∈ ns) := fun ns => by
    induction ns with
    | nil => rfl
    | cons n ns ih =>
      have e : eqV (.str n) (.str x) = decide (x = n) := by
        show (n == x) = _
        by_cases h : x = n
        · subst h
          simp
        · rw [decide_eq_false h]
          exact beq_eq_false_iff_ne.mpr fun e => h e.symm
      show (eqV (.str n) (.str x) || inV (.str x) (ns.map V.str)) = _
      rw [e, ih]
      simp [List.mem_cons]
  cases t with
  | true =>
    simp only [if_true] at r2
    cases r2 with
    | tup h1 h2 =>
      have e := repL_strs h2
      subst e
      exact ⟨_, _, rfl, .inr (same_tup (same_hd M H) h1), rfl, fl zs, by rw [iv]; exact q _ _ H p (Same.refl H) (.bl _)⟩
  | false =>
    simp only [Bool.false_eq_true, if_false] at r2
    cases r2 with
    | lst h1 h2 =>
      have e := repL_strs h2
      subst e
      exact ⟨_, _, rfl, .inl (SqL.of (hd_of h1).2), rfl, fl zs, by rw [iv]; exact q _ _ H p (Same.refl H) (.bl _)⟩
/-- tuple + tuple -/
theorem od_catT {xs ys : List D} (h : xs.length + ys.length ≤ 100000) (p : P (.tup (xs ++ ys))) : OpD K (rCatA K) (.tup xs) (.tup ys) P := fun M H v w Q al r1 r2 q => by
  cases r1 with
  | tup h1 h2 =>
    cases r2 with
    | tup h3 h4 =>
      refine ⟨_, _, _, _, rfl, rfl, same_tup (same_hd M H) h1, same_tup (same_hd M H) h3, by rw [h2.length, h4.length]; exact sz_of h, fun e => ?_, fun _ e => ?_, fun _ _ a ha => ?_⟩
      · subst e
        cases h2
        exact q _ _ H p (Same.refl H) (.tup h3 h4)
      · subst e
        cases h4
        exact q _ _ H (by simpa using p) (Same.refl H) (.tup h1 h2)
      · exact q _ _ _ p (same_new ha) (.tup (SqT.of (hd_new al ha)) ((h2.append h4).mono (same_hdM (same_new ha))))
end
end Pf

namespace Pf
open PySem L2 RZ PySem.Spec PyProof.Rows
/-! ### a def that returns a new list -/
def DoN (F : Fm) (ts : TS) (δ : List SD) (P : List D → Prop) : Prop := ∀ M σ H (E : Ends), Ctx F M σ H δ →
  (∀ p us es M' σ' H' δ', P es → Ctx F M' σ' H' δ' → H' p = some (.lst us) → F.H0 p = none → ¬ F.mv p → M' p = true → RepL F.K (hd M' H') us es → E.rt (.ref p) H') → ts E σ H
section
variable {F : Fm} {δ : List SD} {t u : TS} {te : TE} {tt : TT} {P : List D → Prop}
theorem dn_seq (h : Do F t δ { nx := fun δ' => DoN F u δ' P }) : DoN F (tSeq t u) δ P := fun M σ H E c q =>
  h M σ H { E with nx := u E } c (fun M' σ' H' δ' p c' s => p M' σ' H' E c' q) (fun _ _ _ _ _ _ p => p.elim) (fun _ _ _ _ p => p.elim) (fun _ _ _ _ p => p.elim)
theorem dn_if (h : EvT F tt δ fun b => (b = true → DoN F t δ P) ∧ (b = false → DoN F u δ P)) : DoN F (tIfS tt t u) δ P := fun M σ H E c q =>
  h M σ H _ c fun y H1 p c1 e => by
    cases y with
    | true => exact p.1 rfl M σ H1 E c1 q
    | false => exact p.2 rfl M σ H1 E c1 q
/-- if tt: return ..; the rest -/
theorem dn_ifS (h : EvT F tt δ fun b => (b = true → DoN F t δ P) ∧ (b = false → DoN F u δ P)) : DoN F (tSeq (tIfS tt t tNext) u) δ P := fun M σ H E c q =>
  h M σ H _ c fun y H1 p c1 e => by
    cases y with
    | true => exact p.1 rfl M σ H1 { E with nx := u E } c1 q
    | false => exact p.2 rfl M σ H1 E c1 q
theorem dn_ret (h : EvN F te δ P) : DoN F (tRet te) δ P := fun M σ H E c q =>
  h M σ H _ c fun p vs ds H' pd c' hp h0 hb no e hl r => q p vs ds (hid M p) σ H' δ pd c' hl h0 hb hid_same r
theorem dn_retO {i : Nat} {p : Addr} {es : List D} (hi : δ[i]? = some (.own p (.lst es))) (pe : P es) : DoN F (tRet (tVar i)) δ P := fun M σ H E c q => by
  obtain ⟨s, hs, e, m, ho, hp, rr⟩ := c.sl i _ hi
  subst e
  obtain ⟨h0, hb⟩ := c.oh i p _ hi
  cases rr with
  | @lst us _ rr => exact ⟨_, hs, q p us es M σ H δ pe c hp h0 hb m rr⟩
end
section
variable {K : PySem.W.Frag} {N : List Str} {vs : List V} {H : Hp} {Q : VK} {E : XK} {t : TS} {Pre : List D → Prop} {Post : List D → List D → Prop}
theorem enterNN (hs : spN K Pre Post vs H Q E) (hb : ∀ (M : Addr → Bool) (ds : List D), Pre ds → ds.length = vs.length → DoN ⟨K, none, M, H, E, 0, []⟩ t (slots N ds) (Post ds)) :
    t { nx := fun _ H' => Q .non H', rt := Q } (L2.start N vs) H := by
  obtain ⟨M, ds, al, r, pre, q⟩ := hs
  have hl := r.length
  have c : Ctx ⟨K, none, M, H, E, 0, []⟩ M (L2.start N vs) H (slots N ds) := by
    refine ⟨al, al, fun _ h => h, StepB.refl _ _, ⟨fun b z => (nomatch z), fun a h => (nomatch h)⟩, ?_, ?_, fun i j p es fs h1 h2 => absurd h1 no_own, fun i p es h => absurd h no_own⟩
    · unfold L2.start slots
      rw [List.length_append, List.length_append, List.length_map, List.length_map, List.length_replicate, List.length_replicate, hl]
    · unfold L2.start slots
      rw [hl]
      exact sl_base rfl _ r
  refine hb M ds pre hl.symm M _ H _ c fun p us es M' σ' H' δ' pd c' hp h0 hbn m r' => ?_
  refine q p us es H' pd h0 (fun a o h => c'.fr a o (mv_none rfl rfl a) h) hp (r'.mono (same_hd_le fun a h => ?_))
  by_cases ea : a = p
  · rw [ea]
    exact m
  · rw [hid_ne ea] at h
    exact c'.m0 a h
end
section
variable {F : Fm} {δ : List SD} {ta tk : TA} {te tb : TE} {P : List D → Prop} {E : XK} {Pre : List D → Prop} {Post : List D → List D → Prop}
theorem en_call (h : EvA F ta δ fun ds => Pre ds ∧ ∀ d, Post ds d → P d) : EvN F (tCall (spN F.K Pre Post) [] E ta) δ P := fun M σ H Q c q =>
  h M σ H _ c fun vs ds H1 p c1 e1 r => by
    rw [List.append_nil]
    refine ⟨M, ds, c1.al, r, p.1, fun a us es H2 pd hp s h2 r2 => ?_⟩
    have hp0 : H a = none := by
      cases z : H a with
      | none => rfl
      | some o =>
        have := e1 a o (c1.nob hp) z
        rw [hp] at this
        cases this
    exact q a us es H2 (p.2 es pd) (c1.take hp s h2) hp0 (c1.h0 hp) (c1.nob hp) (c1.nown hp) (e1.trans (StepB.of s)) h2 r2
theorem en_callK {gV : List V → List V → List V} {gD : List D → List D → List D} (hg : ∀ (H : Hp) (vs zs : List V) (ds es : List D), RepL F.K H vs ds → RepL F.K H zs es → RepL F.K H (gV vs zs) (gD ds es))
    (h : EvA F ta δ fun ds => EvA F tk δ fun es => Pre (gD ds es) ∧ ∀ d, Post (gD ds es) d → P d) : EvN F (tCallK (spN F.K Pre Post) gV E ta tk) δ P := fun M σ H Q c q =>
  h M σ H _ c fun vs ds H1 p c1 e1 r => p M σ H1 _ c1 fun zs es H2 p2 c2 e2 r2 => by
    refine ⟨M, gD ds es, c2.al, hg _ _ _ _ _ (r.mono (hd_step c1 e2)) r2, p2.1, fun a us fs H3 pd hp s h2 r3 => ?_⟩
    have hp0 : H a = none := by
      cases z : H a with
      | none => rfl
      | some o =>
        have := (e1.trans e2) a o (c2.nob hp) z
        rw [hp] at this
        cases this
    exact q a us fs H3 (p2.2 fs pd) (c2.take hp s h2) hp0 (c2.h0 hp) (c2.nob hp) (c2.nown hp) ((e1.trans e2).trans (StepB.of s)) h2 r3
end
/-! ### sum, min, max, the set of ints sorted, a deep in -/
def rSumK (K : PySem.W.Frag) : List V → Hp → VK → Prop := rSum K
theorem callSum (K : PySem.W.Frag) {X : Cx} (hc : X.calm = true := by rfl) (h : X.K = K := by rfl) : CallR X (.builtin "sum") (rSum K) := by subst h; exact cr_sum hc
theorem callMin (K : PySem.W.Frag) {X : Cx} (hc : X.calm = true := by rfl) (h : X.K = K := by rfl) : CallR X (.builtin "min") (rMin K) := by subst h; exact cr_min hc
theorem callMax (K : PySem.W.Frag) {X : Cx} (hc : X.calm = true := by rfl) (h : X.K = K := by rfl) : CallR X (.builtin "max") (rMax K) := by subst h; exact cr_max hc
theorem callSortSet (w : World) {X : Cx} (hc : X.calm = true := by rfl) (h : X.w = w := by rfl) : CallR X (.builtin "sorted") (rSortedSet w) := by subst h; exact cr_sortedSet hc
theorem opInD (K : PySem.W.Frag) {X : Cx} (hu : X.A.units + 65 < cLine) (h : X.K = K := by rfl) : OpR X (compareOp .In) (rInD K) := by subst h; exact op_inD hu
/-- set(t), t a tuple of ints -/
def rSetI (K : PySem.W.Frag) (w : World) : List V → Hp → VK → Prop := fun xs H Q => ∃ (l : Addr) (ns : List Int), xs = [.ref l] ∧ SqT K H l (ns.map V.int) ∧ ns.length < 63 ∧
  ∀ p c, H p = none → c < 64 → Q (.ref p) (upd H p (SetO w p (fun j => decide (j ∈ ns)) c))
theorem callSetI (K : PySem.W.Frag) (w : World) {X : Cx} (hc : X.calm = true := by rfl) (h : X.K = K := by rfl) (hw : X.w = w := by rfl) : CallR X (.type "set") (rSetI K w) := by
  subst h hw
  intro pins s σ H xs us Q I r h
  obtain ⟨l, ns, rfl, hq, hz, q⟩ := h
  obtain ⟨u, rfl, ru⟩ := r.one
  cases (show u = Value.ref l from ru)
  obtain ⟨its, rv, pt, _⟩ := I.tuple hq
  refine call_set_tupI ns (I.ok.hd hc) (show s.heap.IsTuple l its.toArray from pt) (ints_of_vals rv) (by unfold scanBound; omega) fun h' tk c R1 hcn k => ?_
  exact ⟨.ref _, upd H s.heap.objs.size (SetO X.w s.heap.objs.size (fun j => decide (j ∈ ns)) c), I.laid (t' := tk) k (Nat.le_refl _) (setO_new R1), rfl, q _ c (I.hok.fresh (Nat.le_refl _)) (by omega)⟩
def minI : List Int → Int
  | [] => 0
  | [x] => x
  | x :: y :: xs => min x (minI (y :: xs))
def maxI : List Int → Int
  | [] => 0
  | [x] => x
  | x :: y :: xs => max x (maxI (y :: xs))
theorem minI_le : ∀ {ns : List Int} {y : Int}, y ∈ ns → minI ns ≤ y
  | [x], y, h => by rw [List.mem_singleton.mp h]; exact Int.le_refl _
  | x :: z :: xs, y, h => by
    show min x (minI (z :: xs)) ≤ y
    rcases List.mem_cons.mp h with rfl | h
    · exact Int.min_le_left _ _
    · exact Int.le_trans (Int.min_le_right _ _) (minI_le h)
theorem minI_mem : ∀ {ns : List Int}, ns ≠ [] → minI ns ∈ ns
  | [], h => absurd rfl h
  | [x], _ => by simp [minI]
  | x :: z :: xs, _ => by
    have ih := minI_mem (ns := z :: xs) (by simp)
    show min x (minI (z :: xs)) ∈ _
    rcases Int.le_total x (minI (z :: xs)) with h | h
    · rw [Int.min_eq_left h]; simp
    · rw [Int.min_eq_right h]; exact List.mem_cons_of_mem _ ih
theorem le_maxI : ∀ {ns : List Int} {y : Int}, y ∈ ns → y ≤ maxI ns
  | [x], y, h => by rw [List.mem_singleton.mp h]; exact Int.le_refl _
  | x :: z :: xs, y, h => by
    show y ≤ max x (maxI (z :: xs))
    rcases List.mem_cons.mp h with rfl | h
    · exact Int.le_max_left _ _
    · exact Int.le_trans (le_maxI h) (Int.le_max_right _ _)
theorem maxI_mem : ∀ {ns : List Int}, ns ≠ [] → maxI ns ∈ ns
  | [], h => absurd rfl h
  | [x], _ => by simp [maxI]
  | x :: z :: xs, _ => by
    have ih := maxI_mem (ns := z :: xs) (by simp)
    show max x (maxI (z :: xs)) ∈ _
    rcases Int.le_total x (maxI (z :: xs)) with h | h
    · rw [Int.max_eq_right h]; exact List.mem_cons_of_mem _ ih
    · rw [Int.max_eq_left h]; simp
section
variable {K : PySem.W.Frag} {P : D → Prop} {ns : List Int}
theorem repL_ints {H : Hp} : ∀ {vs : List V} {ns : List Int}, RepL K H vs (ns.map .int) → vs = ns.map V.int
  | _, [], .nil => rfl
  | _, n :: ns, .cons (.int _) r => by rw [List.map_cons, repL_ints (ns := ns) r]
theorem cd_sum (p : P (.int ns.sum)) : CallD K (rSum K) [.lst (ns.map .int)] P := fun M H vs Q al r q => by
  cases r with
  | cons r1 r2 =>
    cases r2
    cases r1 with
    | lst h1 h2 =>
      have e := repL_ints h2
      subst e
      exact ⟨_, ns, rfl, SqL.of (hd_of h1).2, q _ _ H p (Same.refl H) (.int _)⟩
theorem cd_min (hn : ns ≠ []) (p : P (.int (minI ns))) : CallD K (rMin K) [.lst (ns.map .int)] P := fun M H vs Q al r q => by
  cases r with
  | cons r1 r2 =>
    cases r2
    cases r1 with
    | lst h1 h2 =>
      have e := repL_ints h2
      subst e
      refine ⟨_, ns, rfl, SqL.of (hd_of h1).2, List.length_pos_iff.mpr hn, fun m hm hle => ?_⟩
      have : m = minI ns := Int.le_antisymm (hle _ (minI_mem hn)) (minI_le hm)
      rw [this]
      exact q _ _ H p (Same.refl H) (.int _)
theorem cd_max (hn : ns ≠ []) (p : P (.int (maxI ns))) : CallD K (rMax K) [.lst (ns.map .int)] P := fun M H vs Q al r q => by
  cases r with
  | cons r1 r2 =>
    cases r2
    cases r1 with
    | lst h1 h2 =>
      have e := repL_ints h2
      subst e
      refine ⟨_, ns, rfl, SqL.of (hd_of h1).2, List.length_pos_iff.mpr hn, fun m hm hle => ?_⟩
      have : m = maxI ns := Int.le_antisymm (le_maxI hm) (hle _ (maxI_mem hn))
      rw [this]
      exact q _ _ H p (Same.refl H) (.int _)
theorem od_inD {x : D} {ds : List D} (px : plainD x = true) (py : plainL ds = true) (sx : SeqAt.shaped (pyd x) = true) (sy : SeqAt.shaped (pyd (.lst ds)) = true) (p : P (.bl (ds.any fun z => PyData.eqv (pyd z) (pyd x)))) : OpD K (rInD K) x (.lst ds) P := fun M H v w Q al r1 r2 q => by
  have e : pyd (.lst ds) = .list (ds.map pyd) := by simp only [pyd, pydL_map]
  refine ⟨_, ds.map pyd, rep_dp (r1.mono (same_hd M H)) px, ?_, sx, by rw [← e]; exact sy, ?_⟩
  · rw [← e]
    exact rep_dp (r2.mono (same_hd M H)) (by simp only [plainD]; exact py)
  · rw [List.any_map]
    exact q _ _ H p (Same.refl H) (.bl _)
end
/-- one ascending list of the members -/
theorem asc_uniq : ∀ {xs ys : List Int}, xs.Pairwise (· < ·) → ys.Pairwise (· < ·) → (∀ k, k ∈ xs ↔ k ∈ ys) → xs = ys
  | [], [], _, _, _ => rfl
  | [], y :: ys, _, _, h => absurd ((h y).mpr (by simp)) (by simp)
  | x :: xs, [], _, _, h => absurd ((h x).mp (by simp)) (by simp)
  | x :: xs, y :: ys, hx, hy, h => by
    obtain ⟨hx1, hx2⟩ := List.pairwise_cons.mp hx
    obtain ⟨hy1, hy2⟩ := List.pairwise_cons.mp hy
    have e : x = y := by
      rcases List.mem_cons.mp ((h x).mp (by simp)) with e | h1
      · exact e
      rcases List.mem_cons.mp ((h y).mpr (by simp)) with e | h2
      · exact e.symm
      have := hy1 x h1
      have := hx1 y h2
      omega
    subst e
    rw [asc_uniq hx2 hy2 fun k => ⟨fun hk => ?_, fun hk => ?_⟩]
    · rcases List.mem_cons.mp ((h k).mp (List.mem_cons_of_mem _ hk)) with rfl | h1
      · exact absurd (hx1 k hk) (Int.lt_irrefl _)
      · exact h1
    · rcases List.mem_cons.mp ((h k).mpr (List.mem_cons_of_mem _ hk)) with rfl | h1
      · exact absurd (hy1 k hk) (Int.lt_irrefl _)
      · exact h1
section
variable {F : Fm} {δ : List SD} {te : TE} {PL : List D → Prop} {w : World}
/-- sorted(set(t)), t ascending -/
theorem en_sortSet (h : Ev F te δ fun d => ∃ ns : List Int, d = .tup (ns.map .int) ∧ ns.Pairwise (· < ·) ∧ ns.length < 63 ∧ PL (ns.map .int)) : EvN F (tCB (rSortedSet w) (tCons (tCB (rSetI F.K w) (tCons te tNil)) tNil)) δ PL := fun M σ H Q c q =>
  h M σ H _ c fun v d H1 p c1 e1 r => by
    obtain ⟨ns, rfl, pw, hz, pz⟩ := p
    cases r with
    | @tup a vs _ h1 h2 =>
      have e := repL_ints h2
      subst e
      refine ⟨a, ns, rfl, same_tup (same_hd M H1) h1, hz, fun p n hp hn => ?_⟩
      refine ⟨p, _, n, rfl, upd_same, hn, fun ms l pm hm hl hl0 => ?_⟩
      have e : ms = ns := asc_uniq pm pw fun k => by rw [hm k, decide_eq_true_eq]
      subst e
      have c2 := c1.same (same_new (o := SetO w p (fun j => decide (j ∈ ms)) n) hp)
      have k2 : StepB F.mv H (upd H1 p (SetO w p (fun j => decide (j ∈ ms)) n)) := e1.trans (StepB.of (same_new hp))
      have hl1 : H l = none := by
        cases z : H l with
        | none => rfl
        | some o =>
          have := k2 l o (c2.nob hl0) z
          rw [hl0] at this
          cases this
      refine q l _ (ms.map .int) _ pz (c2.hide hl0) hl1 (c2.h0 hl0) (c2.nob hl0) (c2.nown hl0) (k2.trans (StepB.of (same_new hl0))) upd_same ?_
      have : ∀ (H : Hp) (l : List Int), RepL F.K H (l.map V.int) (l.map D.int) := fun H l => by
        induction l with
        | nil => exact .nil
        | cons x l ih => exact .cons (.int _) ih
      exact this _ _
end
theorem room65 {k : Nat} {A : Around} (r : Room k A) : A.units + 65 < cLine := by have := r.un; omega
/-! ### values known -/
section
variable {F : Fm} {δ : List SD} {ta tb te : TE} {tt tu : TT} {P : D → Prop} {x y z : D} {a b : Bool} {i j : Int}
theorem Ev.val {v : D} (h : Ev F te δ (· = v)) (p : P v) : Ev F te δ P := h.imp fun d e => by rw [e]; exact p
theorem v_var {k : Nat} (h : δ[k]? = some (.dat x)) : Ev F (tVar k) δ (· = x) := ev_var h rfl
theorem v_and (h1 : Ev F ta δ (· = .bl a)) (h2 : Ev F tb δ (· = .bl b)) : Ev F (tAndV ta tb) δ (· = .bl (a && b)) :=
  ev_and (h1.val ⟨a, rfl, fun e => h2.val (by rw [e]; rfl), fun e => by rw [e]; rfl⟩)
theorem v_or (h1 : Ev F ta δ (· = .bl a)) (h2 : Ev F tb δ (· = .bl b)) : Ev F (tOrV ta tb) δ (· = .bl (a || b)) :=
  ev_or (h1.val ⟨a, rfl, fun e => h2.val (by rw [e]; rfl), fun e => by rw [e]; rfl⟩)
theorem v_not (h1 : Ev F ta δ (· = .bl a)) : Ev F (tNotV ta) δ (· = .bl (!a)) := ev_not (h1.val ⟨a, rfl, rfl⟩)
theorem v_op {r : R2} (h1 : Ev F ta δ (· = x)) (h2 : Ev F tb δ (· = y)) (h : OpD F.K r x y (· = z)) : Ev F (tOp r ta tb) δ (· = z) := ev_op (h1.val (h2.val h))
theorem v_cmp {g : Int → Int → Bool} (h1 : Ev F ta δ (· = .int i)) (h2 : Ev F tb δ (· = .int j)) : Ev F (tOp (rI0 fun i j => .bl (g i j)) ta tb) δ (· = .bl (g i j)) := v_op h1 h2 (od_bl rfl)
theorem v_ari {g : Int → Int → Int} (h1 : Ev F ta δ (· = .int i)) (h2 : Ev F tb δ (· = .int j)) : Ev F (tOp (rI0 fun i j => .int (g i j)) ta tb) δ (· = .int (g i j)) := v_op h1 h2 (od_int rfl)
theorem v_eqS {s t : Str} (h1 : Ev F ta δ (· = .str s)) (h2 : Ev F tb δ (· = .str t)) : Ev F (tOp rEq ta tb) δ (· = .bl (decide (s = t))) := v_op h1 h2 (od_eq_str rfl)
theorem v_neS {s t : Str} (h1 : Ev F ta δ (· = .str s)) (h2 : Ev F tb δ (· = .str t)) : Ev F (tOp rNe ta tb) δ (· = .bl (!decide (s = t))) := v_op h1 h2 (od_ne_str rfl)
theorem v_isN (h1 : Ev F ta δ (· = x)) : Ev F (tOp (fun x y H Q => y = .non ∧ Q (.bl (decide (x = .non))) H) ta (tC .non)) δ (· = .bl (isNon x)) := v_op h1 (ev_non rfl) (ud_isN rfl)
theorem v_notN (h1 : Ev F ta δ (· = x)) : Ev F (tOp (fun x y H Q => y = .non ∧ Q (.bl (!decide (x = .non))) H) ta (tC .non)) δ (· = .bl (!isNon x)) := v_op h1 (ev_non rfl) (ud_notN rfl)
theorem v_inS2 {s t u : Str} (h1 : Ev F ta δ (· = .str s)) : Ev F (tOp (rIn F.K false) ta (tTup (tCons (tC (.str t)) (tCons (tC (.str u)) tNil)))) δ (· = .bl (decide (s ∈ ([t, u] : List Str)))) :=
  ev_op (h1.val (ev_tup (ea_cons (ev_str (ea_cons (ev_str (ea_nil ⟨by simp, od_inStrs (zs := [t, u]) (neg := false) (t := true) rfl⟩)))))))
theorem v_inS2L {s t u : Str} (h1 : Ev F ta δ (· = .str s)) : Ev F (tOp (rIn F.K false) ta (tLst (tCons (tC (.str t)) (tCons (tC (.str u)) tNil)))) δ (· = .bl (decide (s ∈ ([t, u] : List Str)))) :=
  ev_op (h1.val (ev_lst (ea_cons (ev_str (ea_cons (ev_str (ea_nil ⟨by simp, od_inStrs (zs := [t, u]) (neg := false) (t := false) rfl⟩)))))))
theorem v_sum {ns : List Int} (h : Ev F te δ (· = .lst (ns.map .int))) : Ev F (tCB (rSum F.K) (tCons te tNil)) δ (· = .int ns.sum) := ev_cb (ea_cons (h.val (ea_nil (cd_sum rfl))))
theorem v_min {ns : List Int} (hn : ns ≠ []) (h : Ev F te δ (· = .lst (ns.map .int))) : Ev F (tCB (rMin F.K) (tCons te tNil)) δ (· = .int (minI ns)) := ev_cb (ea_cons (h.val (ea_nil (cd_min hn rfl))))
theorem v_max {ns : List Int} (hn : ns ≠ []) (h : Ev F te δ (· = .lst (ns.map .int))) : Ev F (tCB (rMax F.K) (tCons te tNil)) δ (· = .int (maxI ns)) := ev_cb (ea_cons (h.val (ea_nil (cd_max hn rfl))))
theorem v_len {k : Nat} (hk : lenD x = some k) (hz : k ≤ 100000) (h : Ev F te δ (· = x)) : Ev F (tCB (rLenK F.K) (tCons te tNil)) δ (· = .int (k : Int)) := ev_cb (ea_cons (h.val (ea_nil (cd_lenK hk hz rfl))))
theorem v_ixT {ds : List D} (he : atI ds i = some z) (h1 : Ev F ta δ (· = .tup ds)) (h2 : Ev F tb δ (· = .int i)) : Ev F (tOp (rIxT F.K) ta tb) δ (· = z) := v_op h1 h2 (od_ixT he rfl)
theorem v_ixL {ds : List D} (he : atI ds i = some z) (h1 : Ev F ta δ (· = .lst ds)) (h2 : Ev F tb δ (· = .int i)) : Ev F (tOp (rIxL F.K) ta tb) δ (· = z) := v_op h1 h2 (od_ixL he rfl)
theorem EvT.val {PT : Bool → Prop} (h : EvT F tt δ (· = b)) (p : PT b) : EvT F tt δ PT := h.imp fun d e => by rw [e]; exact p
theorem vt_test (h : Ev F te δ (· = .bl b)) : EvT F (tTest te) δ (· = b) := et_test (h.val ⟨b, rfl, rfl⟩)
theorem vt_and (h1 : EvT F tt δ (· = a)) (h2 : EvT F tu δ (· = b)) : EvT F (tAnd tt tu) δ (· = (a && b)) :=
  et_and (h1.val ⟨fun e => h2.val (by rw [e]; rfl), fun e => by rw [e]; rfl⟩)
theorem vt_or (h1 : EvT F tt δ (· = a)) (h2 : EvT F tu δ (· = b)) : EvT F (tOr tt tu) δ (· = (a || b)) :=
  et_or (h1.val ⟨fun e => h2.val (by rw [e]; rfl), fun e => by rw [e]; rfl⟩)
theorem vt_not (h1 : EvT F tt δ (· = a)) : EvT F (tNot tt) δ (· = (!a)) := et_not (h1.val rfl)
theorem do_ifV {t u : TS} {R : PD} (h : EvT F tt δ (· = b)) (k1 : b = true → Do F t δ R) (k2 : b = false → Do F u δ R) : Do F (tIfS tt t u) δ R := do_if (h.val ⟨k1, k2⟩)
/-- a, b, c = x, y, z -/
theorem do_par3 {tc : TE} {R : PD} {i j l : Nat} (h : Ev F ta δ fun x => Ev F tb δ fun y => Ev F tc δ fun z => R.nx (((δ.set i (.dat x)).set j (.dat y)).set l (.dat z))) : Do F (tPar3 i j l (tCons ta (tCons tb (tCons tc tNil)))) δ R := fun M σ H E c a b k d =>
  h M σ H _ c fun v x H1 p1 c1 e1 r1 => p1 M σ H1 _ c1 fun w y H2 p2 c2 e2 r2 => p2 M σ H2 _ c2 fun u z H3 p3 c3 e3 r3 =>
    ⟨v, w, u, rfl, a M _ H3 _ p3 (((c3.set i (r1.mono ((hd_step c1 e2).trans (hd_step c2 e3)))).set j (r2.mono (hd_step c2 e3))).set l r3) (((hd_step c e1).trans (hd_step c1 e2)).trans (hd_step c2 e3))⟩
end
end Pf

namespace Pf
open PySem L2 RZ
/-! ### xs.extend(ys) of an own list -/
theorem do_extend {F : Fm} {δ : List SD} {te : TE} {R : PD} {i : Nat} {p : Addr} {ds : List D} (hi : δ[i]? = some (.own p (.lst ds))) (h : Ev F te δ fun x => ∃ es, x = .lst es ∧ ds.length + es.length ≤ 100000 ∧ R.nx (δ.set i (.own p (.lst (ds ++ es))))) :
    Do F (tDrop (tBM F.K "list" rExtend (tVar i) (tCons te tNil))) δ R := fun M σ H E c a b k d => by
  obtain ⟨y, h1, hy, m, ho, h3, r0⟩ := c.sl i _ hi
  subst hy
  cases r0 with
  | @lst ws _ r0 =>
  refine ⟨_, h1, .inl ⟨rfl, ws, SqL.of h3⟩, ?_⟩
  refine h M σ H _ c fun v x H1 px c1 e r => ?_
  obtain ⟨es, rfl, hl, p1⟩ := px
  have h4 := e p _ (c.oh i p _ hi).2 h3
  have s := hd_step c e
  cases r with
  | lst hb rz =>
  refine ⟨p, _, ws, _, rfl, rfl, h4, (hd_of hb).2, by rw [r0.length, rz.length]; exact sz_of hl, ?_⟩
  refine a M σ _ _ p1 (c1.put hi (.lst ((r0.mono s).append rz))) ?_
  rw [hd_upd m]
  exact s
/-! ### x not in a tuple of ints; enumerate of a tuple -/
theorem od_ninIntsT {K : PySem.W.Frag} {P : D → Prop} {i : Int} {ns : List Int} (p : P (.bl (!decide (i ∈ ns)))) : OpD K (rIn K true) (.int i) (.tup (ns.map .int)) P := fun M H v w Q al r1 r2 q => by
  cases r1
  have key : ∀ {vs : List V} {ns : List Int}, RepL K (hd M H) vs (ns.map .int) → vs = ns.map V.int := by
    intro vs ns
    induction ns generalizing vs with
    | nil =>
      intro r
      cases r
      rfl
    | cons n ns ih =>
      intro r
      cases r with
      | cons r rs =>
        cases r
        rw [List.map_cons, ← ih rs]
  have fl : ∀ ns : List Int, ((ns.map V.int).all flatV) = true := fun ns => by
    rw [List.all_eq_true]
    intro x hx
    obtain ⟨n, _, rfl⟩ := List.mem_map.mp hx
    rfl
  have iv : ∀ ns : List Int, inV (.int i) (ns.map V.int) = decide (i ∈ ns) := fun ns => by
    induction ns with
    | nil => rfl
    | cons n ns ih =>
      have e : eqV (.int n) (.int i) = decide (i = n) := by
        show (n == i) = _
        rw [Bool.beq_eq_decide_eq]
        simp [eq_comm]
      show (eqV (.int n) (.int i) || inV (.int i) (ns.map V.int)) = _
      rw [e, ih]
      simp [List.mem_cons]
  cases r2 with
  | tup h1 h2 =>
    have e := key h2
    subst e
    exact ⟨_, _, rfl, .inr (same_tup (same_hd M H) h1), rfl, fl ns, by rw [iv]; exact q _ _ H p (Same.refl H) (.bl _)⟩
theorem it_enumT {F : Fm} {δ : List SD} {te : TE} {PX : List D → Prop} (h : Ev F te δ fun d => ∃ ds, d = .tup ds ∧ PX (numbered ds)) : ItD F (iEnumA F.K (tCons te tNil)) δ PX := fun M σ H R c q =>
  h M σ H _ c fun v d H1 p c1 e r => by
    obtain ⟨ds, rfl, p⟩ := p
    cases r with
    | @tup a vs _ h1 h2 =>
      have hT : SqT F.K H1 a vs := same_tup (same_hd M H1) h1
      refine ⟨_, _, rfl, .inr ⟨hT, q _ _ H1 p c1 e ⟨fun H => SqT F.K H a vs, YPair (fun i => some (.int (i : Nat))) (fun i => vs[i]?), ?_, fun M2 H2 e _ => same_tup (same_hd M2 H2) (same_tup e h1), fun M2 H2 i x H3 al e y => ?_⟩⟩⟩
      · have := walk_enumT (K := F.K) (a := a) (xs := vs)
        rw [numbered_len, ← h2.length]
        exact this
      · obtain ⟨T, v, w, rfl, hT, rfl, e1, e2⟩ := y
        cases e1
        obtain ⟨f, e3, r2⟩ := h2.getV e2
        exact ⟨same_new hT, .tup [.int (i : Nat), f], numbered_get e3, pair_ok al hT (.int _) (r2.mono e)⟩
end Pf

namespace Pf
open PySem L2 RZ
def top (i : Nat) : Stmt := PySem.Challenge.pw_partfirsts_k51_windows_told.main.body.getD i (.Pass ⟨0, 0, 0, 0⟩)
abbrev s_is_whole : Stmt := top 12
abbrev s_is_number : Stmt := top 13
abbrev s__check_parts : Stmt := top 17
abbrev s__check_part : Stmt := top 18
abbrev s__are_parts : Stmt := top 19
abbrev s__is_row : Stmt := top 20
abbrev s__rows_by_number : Stmt := top 21
abbrev s_Table_init : Stmt := inClass (top 22) 2
abbrev s_Table_parts : Stmt := inClass (top 22) 5
abbrev s_Table_rows : Stmt := inClass (top 22) 7
abbrev s_Table_places : Stmt := inClass (top 22) 8
abbrev s_Table_part : Stmt := inClass (top 22) 9
abbrev s_Table_len : Stmt := inClass (top 22) 18
abbrev s_Table_bool : Stmt := inClass (top 22) 19
abbrev s_Table_eq : Stmt := inClass (top 22) 20
abbrev s_Table_repr : Stmt := inClass (top 22) 21
abbrev s_check_plain : Stmt := top 24
abbrev s_check_asks : Stmt := top 25
abbrev s__check_numbers : Stmt := top 29
abbrev s_window : Stmt := top 30
abbrev s_open : Stmt := top 32
abbrev s_draw : Stmt := top 33
abbrev s_of : Stmt := top 34
abbrev s_mixed : Stmt := top 35
abbrev s_like : Stmt := top 36
abbrev s_numbers : Stmt := top 37
abbrev s_base : Stmt := top 38
abbrev s_some_parts : Stmt := top 39
abbrev s_rows : Stmt := top 40
abbrev s_table : Stmt := top 41
abbrev s_law : Stmt := top 42
abbrev N_is_whole : List Str := ["value"]
theorem sc_is_whole : FnScope N_is_whole ["value"] (defScope s_is_whole) := ⟨rfl, rfl, rfl, by decide +kernel, rfl, by decide +kernel, by decide +kernel⟩
abbrev N_is_number : List Str := ["value", "least", "most"]
theorem sc_is_number : FnScope N_is_number ["value", "least", "most"] (defScope s_is_number) := ⟨rfl, rfl, rfl, by decide +kernel, rfl, by decide +kernel, by decide +kernel⟩
abbrev N__check_parts : List Str := ["parts"]
theorem sc__check_parts : FnScope N__check_parts ["parts"] (defScope s__check_parts) := ⟨rfl, rfl, rfl, by decide +kernel, rfl, by decide +kernel, by decide +kernel⟩
abbrev N__check_part : List Str := ["part", "parts"]
theorem sc__check_part : FnScope N__check_part ["part", "parts"] (defScope s__check_part) := ⟨rfl, rfl, rfl, by decide +kernel, rfl, by decide +kernel, by decide +kernel⟩
abbrev N__are_parts : List Str := ["value", "parts", "least", "part"]
theorem sc__are_parts : FnScope N__are_parts ["value", "parts"] (defScope s__are_parts) := ⟨rfl, rfl, rfl, by decide +kernel, rfl, by decide +kernel, by decide +kernel⟩
abbrev N__is_row : List Str := ["value", "parts", "key", "number", "lies"]
theorem sc__is_row : FnScope N__is_row ["value", "parts"] (defScope s__is_row) := ⟨rfl, rfl, rfl, by decide +kernel, rfl, by decide +kernel, by decide +kernel⟩
abbrev N__rows_by_number : List Str := ["rows", "found", "row"]
theorem sc__rows_by_number : FnScope N__rows_by_number ["rows"] (defScope s__rows_by_number) := ⟨rfl, rfl, rfl, by decide +kernel, rfl, by decide +kernel, by decide +kernel⟩
abbrev N_Table_init : List Str := ["self", "parts", "rows", "at", "row", "by_number"]
theorem sc_Table_init : FnScope N_Table_init ["self", "parts", "rows"] (defScope s_Table_init) := ⟨rfl, rfl, rfl, by decide +kernel, rfl, by decide +kernel, by decide +kernel⟩
abbrev N_Table_parts : List Str := ["self"]
theorem sc_Table_parts : FnScope N_Table_parts ["self"] (defScope s_Table_parts) := ⟨rfl, rfl, rfl, by decide +kernel, rfl, by decide +kernel, by decide +kernel⟩
abbrev N_Table_rows : List Str := ["self"]
theorem sc_Table_rows : FnScope N_Table_rows ["self"] (defScope s_Table_rows) := ⟨rfl, rfl, rfl, by decide +kernel, rfl, by decide +kernel, by decide +kernel⟩
abbrev N_Table_places : List Str := ["self", "row"]
theorem sc_Table_places : FnScope N_Table_places ["self"] (defScope s_Table_places) := ⟨rfl, rfl, rfl, by decide +kernel, rfl, by decide +kernel, by decide +kernel⟩
abbrev N_Table_part : List Str := ["self", "index", "row"]
theorem sc_Table_part : FnScope N_Table_part ["self", "index"] (defScope s_Table_part) := ⟨rfl, rfl, rfl, by decide +kernel, rfl, by decide +kernel, by decide +kernel⟩
abbrev N_Table_len : List Str := ["self"]
theorem sc_Table_len : FnScope N_Table_len ["self"] (defScope s_Table_len) := ⟨rfl, rfl, rfl, by decide +kernel, rfl, by decide +kernel, by decide +kernel⟩
abbrev N_Table_bool : List Str := ["self"]
theorem sc_Table_bool : FnScope N_Table_bool ["self"] (defScope s_Table_bool) := ⟨rfl, rfl, rfl, by decide +kernel, rfl, by decide +kernel, by decide +kernel⟩
abbrev N_Table_eq : List Str := ["self", "other"]
theorem sc_Table_eq : FnScope N_Table_eq ["self", "other"] (defScope s_Table_eq) := ⟨rfl, rfl, rfl, by decide +kernel, rfl, by decide +kernel, by decide +kernel⟩
abbrev N_Table_repr : List Str := ["self"]
theorem sc_Table_repr : FnScope N_Table_repr ["self"] (defScope s_Table_repr) := ⟨rfl, rfl, rfl, by decide +kernel, rfl, by decide +kernel, by decide +kernel⟩
abbrev N_check_plain : List Str := ["table", "at", "row"]
theorem sc_check_plain : FnScope N_check_plain ["table"] (defScope s_check_plain) := ⟨rfl, rfl, rfl, by decide +kernel, rfl, by decide +kernel, by decide +kernel⟩
abbrev N_check_asks : List Str := ["asks", "lengths", "most", "ask"]
theorem sc_check_asks : FnScope N_check_asks ["asks", "lengths", "most"] (defScope s_check_asks) := ⟨rfl, rfl, rfl, by decide +kernel, rfl, by decide +kernel, by decide +kernel⟩
abbrev N__check_numbers : List Str := ["skip", "size", "number"]
theorem sc__check_numbers : FnScope N__check_numbers ["skip", "size"] (defScope s__check_numbers) := ⟨rfl, rfl, rfl, by decide +kernel, rfl, by decide +kernel, by decide +kernel⟩
abbrev N_window : List Str := ["table", "asks", "skip", "size", "sent", "part", "ask"]
theorem sc_window : FnScope N_window ["table", "asks", "skip", "size"] (defScope s_window) := ⟨rfl, rfl, rfl, by decide +kernel, rfl, by decide +kernel, by decide +kernel⟩
abbrev N_open : List Str := ["_law_script"]
theorem sc_open : FnScope N_open ["_law_script"] (defScope s_open) := ⟨rfl, rfl, rfl, by decide +kernel, rfl, by decide +kernel, by decide +kernel⟩
abbrev N_draw : List Str := ["_law_bag", "_law_many", "_law_cell", "_law_digit", "_law_seed"]
theorem sc_draw : FnScope N_draw ["_law_bag", "_law_many"] (defScope s_draw) := ⟨rfl, rfl, rfl, by decide +kernel, rfl, by decide +kernel, by decide +kernel⟩
abbrev N_of : List Str := ["_law_bag", "_law_things"]
theorem sc_of : FnScope N_of ["_law_bag", "_law_things"] (defScope s_of) := ⟨rfl, rfl, rfl, by decide +kernel, rfl, by decide +kernel, by decide +kernel⟩
abbrev N_mixed : List Str := ["_law_bag", "_law_things", "_law_found", "_law_thing"]
theorem sc_mixed : FnScope N_mixed ["_law_bag", "_law_things"] (defScope s_mixed) := ⟨rfl, rfl, rfl, by decide +kernel, rfl, by decide +kernel, by decide +kernel⟩
abbrev N_like : List Str := ["_law_found", "_law_due", "_law_one", "_law_other"]
theorem sc_like : FnScope N_like ["_law_found", "_law_due"] (defScope s_like) := ⟨rfl, rfl, rfl, by decide +kernel, rfl, by decide +kernel, by decide +kernel⟩
abbrev N_numbers : List Str := ["_law_bag", "_law_many", "_law_start", "_law_step", "_law_k"]
theorem sc_numbers : FnScope N_numbers ["_law_bag", "_law_many"] (defScope s_numbers) := ⟨rfl, rfl, rfl, by decide +kernel, rfl, by decide +kernel, by decide +kernel⟩
abbrev N_base : List Str := ["_law_bag"]
theorem sc_base : FnScope N_base ["_law_bag"] (defScope s_base) := ⟨rfl, rfl, rfl, by decide +kernel, rfl, by decide +kernel, by decide +kernel⟩
abbrev N_some_parts : List Str := ["_law_bag", "_law_parts", "_law_copies", "_law_first", "_law_part"]
theorem sc_some_parts : FnScope N_some_parts ["_law_bag", "_law_parts", "_law_copies"] (defScope s_some_parts) := ⟨rfl, rfl, rfl, by decide +kernel, rfl, by decide +kernel, by decide +kernel⟩
abbrev N_rows : List Str := ["_law_bag", "_law_parts", "_law_many", "_law_copies", "_law_base_here", "_law_span", "_law_found", "_law_number"]
theorem sc_rows : FnScope N_rows ["_law_bag", "_law_parts", "_law_many", "_law_copies"] (defScope s_rows) := ⟨rfl, rfl, rfl, by decide +kernel, rfl, by decide +kernel, by decide +kernel⟩
abbrev N_table : List Str := ["_law_parts", "_law_rows_here"]
theorem sc_table : FnScope N_table ["_law_parts", "_law_rows_here"] (defScope s_table) := ⟨rfl, rfl, rfl, by decide +kernel, rfl, by decide +kernel, by decide +kernel⟩
abbrev N_law : List Str := ["_law_script", "_law_bag", "_law_turn", "_law_parts", "_law_rows_here", "_law_asks_z", "_law_skip_z", "_law_size_z", "_law_sent", "_law_part", "_law_made", "_law_found", "_law_due", "_law_row"]
theorem sc_law : FnScope N_law ["_law_script"] (defScope s_law) := ⟨rfl, rfl, rfl, by decide +kernel, rfl, by decide +kernel, by decide +kernel⟩
structure Txt (K : PySem.W.Frag) (mg : Str → Option Value) where
  f_is_whole : Addr
  fd_is_whole : FuncData
  F_is_whole : Fun K "is_whole" "is_whole" s_is_whole f_is_whole fd_is_whole
  g_is_whole : mg "is_whole" = some (.ref f_is_whole)
  k_is_whole : PySem.W.keepIn K (.ref f_is_whole) = true
  bd_is_whole : Binds K fd_is_whole ["value"] []
  f_is_number : Addr
  fd_is_number : FuncData
  F_is_number : Fun K "is_number" "is_number" s_is_number f_is_number fd_is_number
  g_is_number : mg "is_number" = some (.ref f_is_number)
  k_is_number : PySem.W.keepIn K (.ref f_is_number) = true
  bd_is_number : Binds K fd_is_number ["value", "least", "most"] []
  f__check_parts : Addr
  fd__check_parts : FuncData
  F__check_parts : Fun K "check_parts" "check_parts" s__check_parts f__check_parts fd__check_parts
  g__check_parts : mg "check_parts" = some (.ref f__check_parts)
  k__check_parts : PySem.W.keepIn K (.ref f__check_parts) = true
  bd__check_parts : Binds K fd__check_parts ["parts"] []
  f__check_part : Addr
  fd__check_part : FuncData
  F__check_part : Fun K "check_part" "check_part" s__check_part f__check_part fd__check_part
  g__check_part : mg "check_part" = some (.ref f__check_part)
  k__check_part : PySem.W.keepIn K (.ref f__check_part) = true
  bd__check_part : Binds K fd__check_part ["part", "parts"] []
  f__are_parts : Addr
  fd__are_parts : FuncData
  F__are_parts : Fun K "_are_parts" "_are_parts" s__are_parts f__are_parts fd__are_parts
  g__are_parts : mg "_are_parts" = some (.ref f__are_parts)
  k__are_parts : PySem.W.keepIn K (.ref f__are_parts) = true
  bd__are_parts : Binds K fd__are_parts ["value", "parts"] []
  f__is_row : Addr
  fd__is_row : FuncData
  F__is_row : Fun K "is_row" "is_row" s__is_row f__is_row fd__is_row
  g__is_row : mg "is_row" = some (.ref f__is_row)
  k__is_row : PySem.W.keepIn K (.ref f__is_row) = true
  bd__is_row : Binds K fd__is_row ["value", "parts"] []
  f__rows_by_number : Addr
  fd__rows_by_number : FuncData
  F__rows_by_number : Fun K "_rows_by_number" "_rows_by_number" s__rows_by_number f__rows_by_number fd__rows_by_number
  g__rows_by_number : mg "_rows_by_number" = some (.ref f__rows_by_number)
  k__rows_by_number : PySem.W.keepIn K (.ref f__rows_by_number) = true
  bd__rows_by_number : Binds K fd__rows_by_number ["rows"] []
  f_Table_init : Addr
  fd_Table_init : FuncData
  F_Table_init : Fun K "__init__" "Table.__init__" s_Table_init f_Table_init fd_Table_init
  k_Table_init : PySem.W.keepIn K (.ref f_Table_init) = true
  bd_Table_init : Binds K fd_Table_init ["self", "parts", "rows"] []
  f_Table_parts : Addr
  fd_Table_parts : FuncData
  F_Table_parts : Fun K "parts" "Table.parts" s_Table_parts f_Table_parts fd_Table_parts
  k_Table_parts : PySem.W.keepIn K (.ref f_Table_parts) = true
  bd_Table_parts : Binds K fd_Table_parts ["self"] []
  f_Table_rows : Addr
  fd_Table_rows : FuncData
  F_Table_rows : Fun K "rows" "Table.rows" s_Table_rows f_Table_rows fd_Table_rows
  k_Table_rows : PySem.W.keepIn K (.ref f_Table_rows) = true
  bd_Table_rows : Binds K fd_Table_rows ["self"] []
  f_Table_places : Addr
  fd_Table_places : FuncData
  F_Table_places : Fun K "places" "Table.places" s_Table_places f_Table_places fd_Table_places
  k_Table_places : PySem.W.keepIn K (.ref f_Table_places) = true
  bd_Table_places : Binds K fd_Table_places ["self"] []
  f_Table_part : Addr
  fd_Table_part : FuncData
  F_Table_part : Fun K "part" "Table.part" s_Table_part f_Table_part fd_Table_part
  k_Table_part : PySem.W.keepIn K (.ref f_Table_part) = true
  bd_Table_part : Binds K fd_Table_part ["self", "index"] []
  f_Table_len : Addr
  fd_Table_len : FuncData
  F_Table_len : Fun K "__len__" "Table.__len__" s_Table_len f_Table_len fd_Table_len
  k_Table_len : PySem.W.keepIn K (.ref f_Table_len) = true
  bd_Table_len : Binds K fd_Table_len ["self"] []
  f_Table_bool : Addr
  fd_Table_bool : FuncData
  F_Table_bool : Fun K "__bool__" "Table.__bool__" s_Table_bool f_Table_bool fd_Table_bool
  k_Table_bool : PySem.W.keepIn K (.ref f_Table_bool) = true
  bd_Table_bool : Binds K fd_Table_bool ["self"] []
  f_Table_eq : Addr
  fd_Table_eq : FuncData
  F_Table_eq : Fun K "__eq__" "Table.__eq__" s_Table_eq f_Table_eq fd_Table_eq
  k_Table_eq : PySem.W.keepIn K (.ref f_Table_eq) = true
  bd_Table_eq : Binds K fd_Table_eq ["self", "other"] []
  f_Table_repr : Addr
  fd_Table_repr : FuncData
  F_Table_repr : Fun K "__repr__" "Table.__repr__" s_Table_repr f_Table_repr fd_Table_repr
  k_Table_repr : PySem.W.keepIn K (.ref f_Table_repr) = true
  bd_Table_repr : Binds K fd_Table_repr ["self"] []
  f_check_plain : Addr
  fd_check_plain : FuncData
  F_check_plain : Fun K "check_plain" "check_plain" s_check_plain f_check_plain fd_check_plain
  g_check_plain : mg "check_plain" = some (.ref f_check_plain)
  k_check_plain : PySem.W.keepIn K (.ref f_check_plain) = true
  bd_check_plain : Binds K fd_check_plain ["table"] []
  f_check_asks : Addr
  fd_check_asks : FuncData
  F_check_asks : Fun K "check_asks" "check_asks" s_check_asks f_check_asks fd_check_asks
  g_check_asks : mg "check_asks" = some (.ref f_check_asks)
  k_check_asks : PySem.W.keepIn K (.ref f_check_asks) = true
  bd_check_asks : Binds K fd_check_asks ["asks", "lengths", "most"] []
  f__check_numbers : Addr
  fd__check_numbers : FuncData
  F__check_numbers : Fun K "_check_numbers" "_check_numbers" s__check_numbers f__check_numbers fd__check_numbers
  g__check_numbers : mg "_check_numbers" = some (.ref f__check_numbers)
  k__check_numbers : PySem.W.keepIn K (.ref f__check_numbers) = true
  bd__check_numbers : Binds K fd__check_numbers ["skip", "size"] []
  f_window : Addr
  fd_window : FuncData
  F_window : Fun K "window" "window" s_window f_window fd_window
  g_window : mg "window" = some (.ref f_window)
  k_window : PySem.W.keepIn K (.ref f_window) = true
  bd_window : Binds K fd_window ["table", "asks", "skip", "size"] []
  f_open : Addr
  fd_open : FuncData
  F_open : Fun K "_law_open" "_law_open" s_open f_open fd_open
  g_open : mg "_law_open" = some (.ref f_open)
  k_open : PySem.W.keepIn K (.ref f_open) = true
  bd_open : Binds K fd_open ["_law_script"] []
  f_draw : Addr
  fd_draw : FuncData
  F_draw : Fun K "_law_draw" "_law_draw" s_draw f_draw fd_draw
  g_draw : mg "_law_draw" = some (.ref f_draw)
  k_draw : PySem.W.keepIn K (.ref f_draw) = true
  bd_draw : Binds K fd_draw ["_law_bag", "_law_many"] []
  f_of : Addr
  fd_of : FuncData
  F_of : Fun K "_law_of" "_law_of" s_of f_of fd_of
  g_of : mg "_law_of" = some (.ref f_of)
  k_of : PySem.W.keepIn K (.ref f_of) = true
  bd_of : Binds K fd_of ["_law_bag", "_law_things"] []
  f_mixed : Addr
  fd_mixed : FuncData
  F_mixed : Fun K "_law_mixed" "_law_mixed" s_mixed f_mixed fd_mixed
  g_mixed : mg "_law_mixed" = some (.ref f_mixed)
  k_mixed : PySem.W.keepIn K (.ref f_mixed) = true
  bd_mixed : Binds K fd_mixed ["_law_bag", "_law_things"] []
  f_like : Addr
  fd_like : FuncData
  F_like : Fun K "_law_like" "_law_like" s_like f_like fd_like
  g_like : mg "_law_like" = some (.ref f_like)
  k_like : PySem.W.keepIn K (.ref f_like) = true
  bd_like : Binds K fd_like ["_law_found", "_law_due"] []
  f_numbers : Addr
  fd_numbers : FuncData
  F_numbers : Fun K "_law_numbers" "_law_numbers" s_numbers f_numbers fd_numbers
  g_numbers : mg "_law_numbers" = some (.ref f_numbers)
  k_numbers : PySem.W.keepIn K (.ref f_numbers) = true
  bd_numbers : Binds K fd_numbers ["_law_bag", "_law_many"] []
  f_base : Addr
  fd_base : FuncData
  F_base : Fun K "_law_base" "_law_base" s_base f_base fd_base
  g_base : mg "_law_base" = some (.ref f_base)
  k_base : PySem.W.keepIn K (.ref f_base) = true
  bd_base : Binds K fd_base ["_law_bag"] []
  f_some_parts : Addr
  fd_some_parts : FuncData
  F_some_parts : Fun K "_law_some_parts" "_law_some_parts" s_some_parts f_some_parts fd_some_parts
  g_some_parts : mg "_law_some_parts" = some (.ref f_some_parts)
  k_some_parts : PySem.W.keepIn K (.ref f_some_parts) = true
  bd_some_parts : Binds K fd_some_parts ["_law_bag", "_law_parts", "_law_copies"] []
  f_rows : Addr
  fd_rows : FuncData
  F_rows : Fun K "_law_rows" "_law_rows" s_rows f_rows fd_rows
  g_rows : mg "_law_rows" = some (.ref f_rows)
  k_rows : PySem.W.keepIn K (.ref f_rows) = true
  bd_rows : Binds K fd_rows ["_law_bag", "_law_parts", "_law_many", "_law_copies"] []
  f_table : Addr
  fd_table : FuncData
  F_table : Fun K "_law_table" "_law_table" s_table f_table fd_table
  g_table : mg "_law_table" = some (.ref f_table)
  k_table : PySem.W.keepIn K (.ref f_table) = true
  bd_table : Binds K fd_table ["_law_parts", "_law_rows_here"] []
  f_law : Addr
  fd_law : FuncData
  F_law : Fun K "law" "law" s_law f_law fd_law
  g_law : mg "law" = some (.ref f_law)
  k_law : PySem.W.keepIn K (.ref f_law) = true
  bd_law : Binds K fd_law ["_law_script"] []
  b_all : mg "all" = none
  b_bool : mg "bool" = none
  b_enumerate : mg "enumerate" = none
  b_int : mg "int" = none
  b_isinstance : mg "isinstance" = none
  b_len : mg "len" = none
  b_list : mg "list" = none
  b_range : mg "range" = none
  b_sorted : mg "sorted" = none
  b_str : mg "str" = none
  b_tuple : mg "tuple" = none
  b_zip : mg "zip" = none
  t__MOST_KEY : Tok
  g__MOST_KEY : mg "_MOST_KEY" = some (.int 1000000000 t__MOST_KEY)
  t_MOST_NUMBER_tables : Tok
  g_MOST_NUMBER_tables : mg "MOST_NUMBER_tables" = some (.int 1000000000 t_MOST_NUMBER_tables)
  t__MOST_ASK : Tok
  g__MOST_ASK : mg "_MOST_ASK" = some (.int 99 t__MOST_ASK)
  t_MOST_NUMBER_windows : Tok
  g_MOST_NUMBER_windows : mg "MOST_NUMBER_windows" = some (.int 50 t_MOST_NUMBER_windows)
  c_Table : Addr
  g_Table : mg "Table" = some (.ref c_Table)
  cf_Table : ClsF K c_Table
  mk_Table : Mk K c_Table f_Table_init
  m_Table_rows : Meth K c_Table "rows" f_Table_rows
  m_Table_places : Meth K c_Table "places" f_Table_places
  m_Table_part : Meth K c_Table "part" f_Table_part
  dn_Table_len : PySem.W.findIn K (.ref c_Table) "__len__" = some (some (.ref f_Table_len))
  fn_Table_len : PySem.W.isFn K (.ref f_Table_len) = true
  dn_Table_bool : PySem.W.findIn K (.ref c_Table) "__bool__" = some (some (.ref f_Table_bool))
  fn_Table_bool : PySem.W.isFn K (.ref f_Table_bool) = true
  dn_Table_eq : PySem.W.findIn K (.ref c_Table) "__eq__" = some (some (.ref f_Table_eq))
  fn_Table_eq : PySem.W.isFn K (.ref f_Table_eq) = true
  eq_Table : PySem.W.findIn K (.ref c_Table) "__eq__" = some (some (.ref f_Table_eq))
  ne_Table : PySem.W.findIn K (.ref c_Table) "__ne__" = some (some (.builtin "object.__ne__"))
  dn_Table_repr : PySem.W.findIn K (.ref c_Table) "__repr__" = some (some (.ref f_Table_repr))
  fn_Table_repr : PySem.W.isFn K (.ref f_Table_repr) = true
  p_Table_parts : Addr
  pr_Table_parts : PropOf K c_Table "parts" p_Table_parts f_Table_parts
  na_Table_parts : NoAttr K c_Table "_parts"
  na_Table_rows : NoAttr K c_Table "_rows"
  na_Table_by_number : NoAttr K c_Table "_by_number"
  mc_Table : Value
  cr_Table : ClX.CRead K c_Table mc_Table
  cv_Table_MOST_PARTS : ∃ u, ClX.CVal K c_Table mc_Table "MOST_PARTS" (.int 4) u
  cv_Table_MOST_ROWS : ∃ u, ClX.CVal K c_Table mc_Table "MOST_ROWS" (.int 300) u
  kit_Table_own : PySem.W.kitOne K (.ref c_Table) (.ref c_Table) = some true
  nf_Table_own : PySem.W.notFirst K c_Table (.ref c_Table) = true
  kit_Table_list : PySem.W.kitOne K (.type "list") (.ref c_Table) = some false
  nf_Table_list : PySem.W.notFirst K c_Table (.type "list") = true
  kit_Table_NoneType : PySem.W.kitOne K (.type "NoneType") (.ref c_Table) = some false
  nf_Table_NoneType : PySem.W.notFirst K c_Table (.type "NoneType") = true

def gkb_window_size_skip_asks_table {α : Type} (us ws : List α) : List α := match us, ws with | [], [b0, b1, b2, b3] => [b3, b2, b1, b0] | _, _ => []
theorem kb_window_size_skip_asks_table {K : PySem.W.Frag} {mg : Str → Option Value} (T : Txt K mg) : KBinds K T.fd_window ["table", "asks", "skip", "size"] ["size", "skip", "asks", "table"] gkb_window_size_skip_asks_table gkb_window_size_skip_asks_table := by
  obtain ⟨oc, od, kV, doc, pm, an, cdv, ct, osl, hfd, lk, hcd⟩ := T.F_window.ex
  refine ⟨fun s us ws _ hl => ?_, fun {vs us zs ws} r rz => ?_⟩
  · rw [hfd]
    rcases us with _ | ⟨yu0, lu⟩ <;> rcases ws with _ | ⟨yw0, _ | ⟨yw1, _ | ⟨yw2, _ | ⟨yw3, _ | ⟨yw4, lw⟩⟩⟩⟩⟩ <;> first
      | (simp [gkb_window_size_skip_asks_table] at hl; done)
      | exact .of_eq rfl
  ·
    cases r with
    | nil =>
      cases rz with
      | nil => exact .nil
      | cons b0 rz =>
        cases rz with
        | nil => exact .nil
        | cons b1 rz =>
          cases rz with
          | nil => exact .nil
          | cons b2 rz =>
            cases rz with
            | nil => exact .nil
            | cons b3 rz =>
              cases rz with
              | nil => exact (.cons b3 (.cons b2 (.cons b1 (.cons b0 .nil))))
              | cons b4 rz => exact .nil
    | cons a0 r => exact .nil
theorem krkb_window_size_skip_asks_table (K : PySem.W.Frag) (H : Hp) (vs zs : List V) (ds es : List D) (r : RepL K H vs ds) (rz : RepL K H zs es) : RepL K H (gkb_window_size_skip_asks_table vs zs) (gkb_window_size_skip_asks_table ds es) := by
  cases r with
  | nil =>
    cases rz with
    | nil => exact .nil
    | cons b0 rz =>
      cases rz with
      | nil => exact .nil
      | cons b1 rz =>
        cases rz with
        | nil => exact .nil
        | cons b2 rz =>
          cases rz with
          | nil => exact .nil
          | cons b3 rz =>
            cases rz with
            | nil => exact (.cons b3 (.cons b2 (.cons b1 (.cons b0 .nil))))
            | cons b4 rz => exact .nil
  | cons a0 r => exact .nil

/-! ### the draws -/
theorem asg_cut {te : TE} {g : TG} {D : Ends} {σ : L2.St} {H : Hp} (h : ∀ G : V → Hp → Prop, G = (fun x H1 => g x σ H1 D.nx) → te σ H G) : tAsg te g D σ H := h _ rfl
theorem seq_in {t u : TS} {D : Ends} {σ : L2.St} {H : Hp} (h : t { D with nx := u D } σ H) : tSeq t u D σ H := h
theorem pm1 : (0 : Int) < 2147483587 := by decide
theorem pm2 : (0 : Int) < 2147483549 := by decide
theorem seq_cut {t u : TS} {D : Ends} {σ : L2.St} {H : Hp} (h : ∀ G : L2.St → Hp → Prop, G = u D → t { D with nx := G } σ H) : tSeq t u D σ H := h _ rfl
def preDraw : List D → Prop := fun ds => ∃ m : Int, ds = [.int m] ∧ 0 < m ∧ m < 1073741824
def postDraw : List D → D → Prop := fun ds d => ∃ m r : Int, ds = [.int m] ∧ d = .int r ∧ 0 ≤ r ∧ r < m
section
variable {K : PySem.W.Frag} {σ : L2.St} {H : Hp} {b c : Addr} {Q : VK} {i z s t : Int}
theorem bag_ix {xs : List V} {k : Int} {v : V} (h0 : σ[0]? = some (some (.ref b))) (hb : H b = some (.lst xs)) (hv : atI xs k = some v) (q : Q v H) : tOp (rIxL K) (tVar 0) (tC (.int k)) σ H Q :=
  ⟨_, h0, _, xs, k, v, rfl, rfl, SqL.of hb, hv, q⟩
theorem bag_set {xs : List V} {k : Int} {j : Nat} {v : V} {R : L2.St → Hp → Prop} (h0 : σ[0]? = some (some (.ref b))) (hb : H b = some (.lst xs)) (hj : ixN xs.length k = some j) (q : R σ (upd H b (.lst (xs.set j v)))) : gSub (tVar 0) (tC (.int k)) rSetL v σ H R :=
  ⟨_, h0, _, xs, k, j, rfl, rfl, hb, hj, q⟩
end
theorem ok_draw {P : Program} {w : World} {K : PySem.W.Frag} {mg : Str → Option Value} {base : Heap} (T : Txt K mg) : FnOk P w K mg base CX0 2 T.f_draw T.fd_draw ["_law_bag", "_law_many"] (spB K preDraw postDraw) := by
  refine T.F_draw.ok sc_draw (spB_len fun ds ⟨m, e, _⟩ => by rw [e]; rfl) (fun cdv A outer s H vs Q E hr h => ?_)
  refine ⟨_, (pss_cons (ps_if (PW.pt (pw_and (pt_cmpR op_eq (pe_ix (ixL K) (pv 0) pe_int (fun _ _ => rfl)) pe_int (nomark _)) (pw_and1 (pt_cmpR op_lt (pe_ix (ixL K) (pv 0) pe_int (fun _ _ => rfl)) (pe_callB (callLen K) (by rfl) T.b_len (by decide +kernel) (pa_cons (pe_ix (ixL K) (pv 0) pe_int (fun _ _ => rfl)) pa_nil)) (nomark _))))) (pss_cons (ps_set (i := 2) sc_draw.nd rfl (Or.inl rfl) (pe_ix (ixL K) (pe_ix (ixL K) (pv 0) pe_int (fun _ _ => rfl)) (pe_ix (ixL K) (pv 0) pe_int (fun _ _ => rfl)) (fun _ _ => rfl)))
      (pss_cons (ps_asg (pe_op op_add (pe_ix (ixL K) (pv 0) pe_int (fun _ _ => rfl)) pe_int) (pg_sub (pv 0) pe_int set_list))
      (pss_cons (ps_asg (pe_ifExp (pt_cmpR op_ge (pv 2) (pe_op op_pow pe_int pe_int) (nomark _)) (pv 2) pe_int) (pg_sub (pv 0) pe_int set_list))
      (pss_one (ps_asg (pe_op op_mod (pe_callTy call_int1 (by rfl) T.b_int (by decide +kernel) (pa_cons (pe_op op_add (pe_op op_add (pe_op op_mul (pe_ix (ixL K) (pv 0) pe_int (fun _ _ => rfl)) pe_int) (pe_op op_mul (pe_op op_mod (pe_callTy call_int1 (by rfl) T.b_int (by decide +kernel) (pa_cons (pv 2) pa_nil)) pe_int) pe_int)) pe_int) pa_nil)) pe_int) (pg_sub (pv 0) pe_int set_list)))))) pss_nil)
    (pss_cons (ps_if (pt_cmpR op_gt (pe_ix (ixL K) (pv 0) pe_int (fun _ _ => rfl)) pe_int (nomark _)) (pss_cons (ps_set (i := 3) sc_draw.nd rfl (Or.inl rfl) (pe_op op_mod (pe_callTy call_int1 (by rfl) T.b_int (by decide +kernel) (pa_cons (pe_ix (ixL K) (pv 0) pe_int (fun _ _ => rfl)) pa_nil)) (pv 1)))
      (pss_cons (ps_asg (pe_op op_fdiv (pe_ix (ixL K) (pv 0) pe_int (fun _ _ => rfl)) (pv 1)) (pg_sub (pv 0) pe_int set_list))
      (pss_one (ps_ret (pv 3))))) pss_nil)
    (pss_cons (ps_asg (pe_op op_add (pe_ix (ixL K) (pv 0) pe_int (fun _ _ => rfl)) pe_int) (pg_sub (pv 0) pe_int set_list))
    (pss_cons (ps_set (i := 4) sc_draw.nd rfl (Or.inl rfl) (pe_ix (ixL K) (pv 0) pe_int (fun _ _ => rfl)))
    (pss_cons (ps_asg (pe_op op_mod (pe_callTy call_int1 (by rfl) T.b_int (by decide +kernel) (pa_cons (pe_op op_add (pe_op op_add (pe_op op_add (pe_op op_mul (pv 4) (pv 4)) (pe_op op_mul pe_int (pv 4))) (pe_op op_mul pe_int (pe_ix (ixL K) (pv 0) pe_int (fun _ _ => rfl)))) pe_int) pa_nil)) pe_int) (pg_sub (pv 0) pe_int set_list))
    (pss_one (ps_ret (pe_op op_mod (pe_callTy call_int1 (by rfl) T.b_int (by decide +kernel) (pa_cons (pe_op op_add (pe_op op_add (pe_op op_fdiv (pe_ix (ixL K) (pv 0) pe_int (fun _ _ => rfl)) pe_int) (pe_op op_mul (pv 4) pe_int)) (pe_ix (ixL K) (pv 0) pe_int (fun _ _ => rfl))) pa_nil)) (pv 1))))))))), ?_⟩
  obtain ⟨M, b, c, ws, ds, rfl, al, mb, ba, r, ⟨m, rfl, m0, m1⟩, q⟩ := h
  cases r with
  | cons r1 r2 =>
  cases r1
  cases r2
  obtain ⟨ns, i, z, sd, t, hb, nc, hc, hi, hn, z0, s0, s1, t0⟩ := ba
  -- what is behind the first if
  refine seq_cut fun G hG => ?_
  have rest : ∀ (x : Option V) (H1 : Hp) (i' : Nat) (z' s' : Int), H1 b = some (.lst [.ref c, .int (i' : Nat), .int z', .int s', .int t]) → (∀ a, a ≠ b → H1 a = H a) → i' ≤ ns.length → 0 ≤ z' → 0 ≤ s' → s' < 2147483587 → G [some (.ref b), some (.int m), x, none, none] H1 := by
    subst hG
    intro x H1 i' z' s' hb1 hk hi' z0' s0' s1'
    have hfin : ∀ (H2 : Hp) (z2 s2 t2 r : Int), H2 b = some (.lst [.ref c, .int (i' : Nat), .int z2, .int s2, .int t2]) → (∀ a, a ≠ b → H2 a = H a) → 0 ≤ z2 → 0 ≤ s2 → s2 < 2147483587 → 0 ≤ t2 → 0 ≤ r → r < m → Q (.int r) H2 := by
      intro H2 z2 s2 t2 r hb2 hk2 a1 a2 a3 a4 a5 a6
      refine q (.int r) (.int r) H2 ⟨m, r, rfl, rfl, a5, a6⟩ (fun a o n h => ?_) ⟨ns, i', z2, s2, t2, hb2, nc, by rw [hk2 c nc]; exact hc, hi', hn, a1, a2, a3, a4⟩ (.int r)
      rw [hk2 a fun e => n (by rw [e])]
      exact h
    refine bag_ix (k := 2) rfl hb1 rfl ⟨_, _, rfl, rfl, _, rfl, ?_⟩
    refine ite2 (fun hz => ?_) (fun hz => ?_)
    · have hz' : 0 < z' := of_decide_eq_true hz
      refine bag_ix rfl hb1 rfl (.inl ⟨_, rfl, _, rfl, _, _, rfl, rfl, m0, ?_⟩)
      refine bag_ix rfl hb1 rfl ⟨_, rfl, _, _, rfl, rfl, ⟨m0, m1⟩, ?_⟩
      refine bag_set rfl hb1 rfl ?_
      refine ⟨_, rfl, ?_⟩
      refine hfin _ (z' / m) s' t (z' % m) upd_same (fun a n => by rw [upd_ne n]; exact hk a n) (Int.ediv_nonneg z0' (Int.le_of_lt m0)) s0' s1' t0 (Int.emod_nonneg _ (Int.ne_of_gt m0)) (Int.emod_lt_of_pos _ m0)
    · refine bag_ix rfl hb1 rfl ⟨_, _, rfl, rfl, ?_⟩
      refine bag_set rfl hb1 rfl ?_
      refine bag_ix rfl upd_same rfl ?_
      refine ⟨_, rfl, _, rfl, _, _, rfl, rfl, .inl ⟨by omega, by omega⟩, ?_⟩
      refine ⟨_, rfl, _, _, rfl, rfl, .inl ⟨by decide, by decide⟩, _, _, rfl, rfl, ?_⟩
      refine bag_ix rfl upd_same rfl ⟨_, _, rfl, rfl, .inl ⟨by decide, by decide⟩, _, _, rfl, rfl, ?_⟩
      refine ⟨_, _, rfl, rfl, .inl ⟨_, rfl, _, _, rfl, rfl, pm1, ?_⟩⟩
      refine bag_set rfl upd_same rfl ?_
      refine bag_ix rfl upd_same rfl ⟨_, _, rfl, rfl, ⟨by decide, by decide⟩, ?_⟩
      refine ⟨_, rfl, _, _, rfl, rfl, .inr ⟨by decide, by decide⟩, _, _, rfl, rfl, ?_⟩
      refine bag_ix rfl upd_same rfl ⟨_, _, rfl, rfl, .inl ⟨_, rfl, _, rfl, _, _, rfl, rfl, m0, ?_⟩⟩
      refine hfin _ z' _ (t + 1) _ upd_same (fun a n => by rw [upd_ne n, upd_ne n]; exact hk a n) z0' (Int.emod_nonneg _ (by decide)) (Int.emod_lt_of_pos _ pm1) (by omega) (Int.emod_nonneg _ (Int.ne_of_gt m0)) (Int.emod_lt_of_pos _ m0)
  refine bag_ix rfl hb rfl ⟨rfl, _, rfl, ?_⟩
  refine ite2 (fun hz => ?_) (fun hz => ?_)
  · refine bag_ix rfl hb rfl ?_
    refine bag_ix rfl hb rfl ⟨_, ns.length, rfl, .inl ⟨_, SqL.of hc, by rw [List.length_map]⟩, _, _, rfl, rfl, _, rfl, ?_⟩
    refine ite2 (fun hl => ?_) (fun hl => rest none H i z sd hb (fun a _ => rfl) hi z0 s0 s1)
    have hl' : i < ns.length := by
      have := of_decide_eq_true hl
      omega
    have hat : atI (ns.map V.int) (i : Int) = some (.int (ns[i])) := atI_nat (by simp [hl'])
    refine bag_ix rfl hb rfl ?_
    refine bag_ix rfl hb rfl ⟨_, _, _, _, rfl, rfl, SqL.of hc, hat, ?_⟩
    generalize ns[i] = cell
    refine bag_ix rfl hb rfl ⟨_, _, rfl, rfl, ?_⟩
    refine bag_set rfl hb rfl ?_
    dsimp only
    refine seq_in ?_
    refine asg_cut fun G2 hG2 => ?_
    have go : ∀ zz : Int, 0 ≤ zz → G2 (.int zz) (upd H b (.lst [.ref c, .int ((i : Int) + 1), .int z, .int sd, .int t])) := by
      subst hG2
      intro zz hzz
      refine bag_set rfl upd_same rfl ?_
      refine bag_ix rfl upd_same rfl ⟨_, _, rfl, rfl, .inr ⟨by decide, by decide⟩, ?_⟩
      refine ⟨_, rfl, .inl ⟨_, rfl, _, _, rfl, rfl, pm2, _, _, rfl, rfl, .inr ⟨by decide, by decide⟩, _, _, rfl, rfl, _, _, rfl, rfl, .inl ⟨_, rfl, _, _, rfl, rfl, pm1, ?_⟩⟩⟩
      refine bag_set rfl upd_same rfl ?_
      exact rest _ _ (i + 1) zz _ upd_same (fun a n => by rw [upd_ne n, upd_ne n, upd_ne n]) hl' hzz (Int.emod_nonneg _ (by decide)) (Int.emod_lt_of_pos _ pm1)
    refine ⟨_, rfl, _, _, rfl, rfl, ⟨by decide, by decide, by decide⟩, _, _, rfl, rfl, _, rfl, ?_⟩
    refine ite2 (fun hz => ?_) (fun hz => ?_)
    · refine ⟨_, rfl, ?_⟩
      refine go cell ?_
      have : (10 : Int) ^ Int.toNat 18 ≤ cell := of_decide_eq_true hz
      exact Int.le_trans (by decide) this
    · exact go 0 (Int.le_refl _)
  · exact rest none H i z sd hb (fun a _ => rfl) hi z0 s0 s1
local macro_rules | `(tactic| walk_at "ev") => `(tactic| first
  | ((with_reducible refine' ev_var ?h ?_); (case h => rfl))
  | with_reducible refine ev_int ?_
  | with_reducible refine ev_bl ?_
  | with_reducible refine ev_str ?_
  | with_reducible refine ev_non ?_
  | with_reducible refine ev_ty ?_
  | with_reducible refine ev_op ?_
  | with_reducible refine ev_un ?_
  | with_reducible refine ev_chain ?_
  | with_reducible refine ev_if ?_
  | with_reducible refine ev_and ?_
  | with_reducible refine ev_or ?_
  | with_reducible refine ev_not ?_
  | with_reducible refine ev_lst ?_
  | with_reducible refine ev_tup ?_
  | with_reducible refine ea_nil ?_
  | with_reducible refine ea_cons ?_
  | with_reducible refine ev_cb ?_
  | with_reducible refine et_test ?_
  | with_reducible refine et_B ?_
  | with_reducible refine et_and ?_
  | with_reducible refine et_or ?_
  | with_reducible refine et_not ?_
  | with_reducible refine et_yes ?_
  | with_reducible refine eo_none ?_
  | with_reducible refine eo_some ?_
  | with_reducible refine ev_slS ?_
  | with_reducible refine od_int ?_
  | with_reducible refine od_bl ?_
  | with_reducible refine od_eq_int ?_
  | with_reducible refine od_ne_int ?_
  | with_reducible refine od_eq_bl ?_
  | with_reducible refine od_ne_bl ?_
  | with_reducible refine od_eq_str ?_
  | with_reducible refine od_ne_str ?_
  | with_reducible refine od_leS ?_
  | with_reducible refine ud_isN ?_
  | with_reducible refine ud_notN ?_
  | with_reducible refine do_seq ?_
  | with_reducible refine do_set ?_
  | with_reducible refine do_ret ?_
  | with_reducible refine do_retN ?_
  | with_reducible refine do_if ?_
  | with_reducible refine do_next ?_
  | with_reducible refine tg_name ?_
  | with_reducible refine tgs_nil ?_
  | with_reducible refine tgs_cons ?_)
/-! ### one of some things -/
def atD (x : D) (i : Int) : Option D := match x with
  | .lst xs => atI xs i | .tup xs => atI xs i | .str z => (atI z.cps.toList i).map fun c => .str ⟨#[c]⟩ | _ => none
theorem od_ix {K : PySem.W.Frag} {P : D → Prop} {x d : D} {i : Int} (hz : ∀ z, x = .str z → z.length ≤ 100000) (h : atD x i = some d) (p : P d) : OpD K (rIx K) x (.int i) P := fun M H v w Q al r1 r2 q => by
  cases x with
  | lst xs => exact .inl (od_ixL h p M H v w Q al r1 r2 q)
  | tup xs => exact .inr (.inl (od_ixT h p M H v w Q al r1 r2 q))
  | str z =>
    cases e : atI z.cps.toList i with
    | none =>
      have h' : (atI z.cps.toList i).map (fun c => D.str ⟨#[c]⟩) = some d := h
      rw [e] at h'
      cases h'
    | some c =>
      have h' : (atI z.cps.toList i).map (fun c => D.str ⟨#[c]⟩) = some d := h
      rw [e] at h'
      cases h'
      exact .inr (.inr (od_ixS (hz z rfl) e p M H v w Q al r1 r2 q))
  | _ => cases h
theorem atD_some {x : D} {n : Nat} {i : Int} (h : lenD x = some n) (h0 : 0 ≤ i) (h1 : i < n) : ∃ d, atD x i = some d := by
  cases x with
  | lst xs =>
    cases h
    exact ⟨_, atI_nat' h0 (by omega)⟩
  | tup xs =>
    cases h
    exact ⟨_, atI_nat' h0 (by omega)⟩
  | str z =>
    cases h
    have h2 : i.toNat < z.cps.toList.length := by
      have : z.cps.toList.length = z.length := by simp [Str.length]
      omega
    refine ⟨.str ⟨#[z.cps.toList[i.toNat]]⟩, ?_⟩
    show (atI z.cps.toList i).map _ = some _
    rw [atI_nat' h0 h2]
    rfl
  | _ => cases h
def preOf : List D → Prop := fun ds => ∃ x n, ds = [x] ∧ lenD x = some n ∧ 0 < n ∧ n ≤ 100000
def postOf : List D → D → Prop := fun ds d => ∃ x n i, ds = [x] ∧ lenD x = some n ∧ 0 ≤ i ∧ i < (n : Int) ∧ atD x i = some d
theorem ok_of {P : Program} {w : World} {K : PySem.W.Frag} {mg : Str → Option Value} {base : Heap} (T : Txt K mg) : FnOk P w K mg base CX0 4 T.f_of T.fd_of ["_law_bag", "_law_things"] (spB K preOf postOf) := by
  refine T.F_of.ok sc_of (spB_len fun ds ⟨x, n, e, _⟩ => by rw [e]; rfl) (fun cdv A outer s H vs Q E hr h => ?_)
  refine ⟨_, (pss_one (ps_ret (pe_ix (ixA K) (pv 1) (pe_call (ok_draw T) (hr.mono (by decide)) rfl T.g_draw T.k_draw T.bd_draw .nil pass0 (pa_cons (pv 0) (pa_cons (pe_callB (callLen K) (by rfl) T.b_len (by decide +kernel) (pa_cons (pv 1) pa_nil)) pa_nil))) (fun _ _ => rfl)))), ?_⟩
  refine enterB h fun M b c ds pre _ => ?_
  obtain ⟨x, n, rfl, hl, n0, n1⟩ := pre
  refine do_ret ?_
  refine ev_op ?_
  refine ev_var rfl ?_
  refine ev_callB rfl rfl ?_
  refine ea_cons (ev_cb (ea_cons (ev_var rfl (ea_nil (cd_lenK hl n1 ?_)))))
  refine ea_nil ⟨⟨n, rfl, by omega, by omega⟩, fun d hd => ?_⟩
  obtain ⟨m, r, e, rfl, r0, r1⟩ := hd
  cases e
  obtain ⟨d, hd⟩ := atD_some hl r0 r1
  refine od_ix (fun z e => ?_) hd ⟨x, n, r, rfl, hl, r0, r1, hd⟩
  subst e
  cases hl
  exact n1

/-! ### equal and of the same kinds -/
mutual
def likeD : D → D → Bool
  | .lst xs, .lst ys => likeL xs ys
  | .tup xs, .tup ys => likeL xs ys
  | .non, .non => true
  | .bl a, .bl b => a == b
  | .int a, .int b => a == b
  | .str a, .str b => decide (a = b)
  | _, _ => false
def likeL : List D → List D → Bool
  | [], [] => true
  | x :: xs, y :: ys => likeD x y && likeL xs ys
  | _, _ => false
end
mutual
def dep : D → Nat
  | .lst xs => depL xs + 1
  | .tup xs => depL xs + 1
  | _ => 0
def depL : List D → Nat
  | [] => 0
  | x :: xs => max (dep x) (depL xs)
end
mutual
def plD : D → Bool
  | .lst xs => decide (xs.length ≤ 10000) && plL xs
  | .tup xs => decide (xs.length ≤ 10000) && plL xs
  | .non => true | .bl _ => true | .int _ => true | .str _ => true
  | _ => false
def plL : List D → Bool
  | [] => true
  | x :: xs => plD x && plL xs
end
mutual
theorem likeD_self : ∀ d : D, plD d = true → likeD d d = true
  | .lst xs, h => by
    simp only [plD, Bool.and_eq_true] at h
    simp only [likeD]
    exact likeL_self xs h.2
  | .tup xs, h => by
    simp only [plD, Bool.and_eq_true] at h
    simp only [likeD]
    exact likeL_self xs h.2
  | .non, _ => by simp only [likeD]
  | .bl _, _ => by simp only [likeD, beq_self_eq_true]
  | .int _, _ => by simp only [likeD, beq_self_eq_true]
  | .str _, _ => by simp only [likeD, decide_true]
  | .dic _, h => by simp only [plD, reduceCtorEq] at h
  | .ins _ _, h => by simp only [plD, reduceCtorEq] at h
  | .ty _, h => by simp only [plD, reduceCtorEq] at h
  | .adr _, h => by simp only [plD, reduceCtorEq] at h
  | .exc _ _, h => by simp only [plD, reduceCtorEq] at h
theorem likeL_self : ∀ ds : List D, plL ds = true → likeL ds ds = true
  | [], _ => by simp only [likeL]
  | d :: ds, h => by
    simp only [plL, Bool.and_eq_true] at h
    simp only [likeL, likeD_self d h.1, likeL_self ds h.2, Bool.and_self]
end
theorem likeL_len : ∀ {xs ys : List D}, likeL xs ys = true → xs.length = ys.length
  | [], [], _ => rfl
  | _ :: _, [], h => by simp only [likeL, reduceCtorEq] at h
  | [], _ :: _, h => by simp only [likeL, reduceCtorEq] at h
  | x :: xs, y :: ys, h => by
    simp only [likeL, Bool.and_eq_true] at h
    simp only [List.length_cons, likeL_len h.2]
theorem plL_get : ∀ {xs : List D} {i : Nat} {x : D}, plL xs = true → xs[i]? = some x → plD x = true
  | [], _, _, _, h => by simp at h
  | y :: ys, 0, x, h, e => by
    simp only [plL, Bool.and_eq_true] at h
    simp at e
    subst e
    exact h.1
  | y :: ys, i + 1, x, h, e => by
    simp only [plL, Bool.and_eq_true] at h
    exact plL_get (i := i) h.2 (by simpa using e)
theorem depL_get : ∀ {xs : List D} {i : Nat} {x : D}, xs[i]? = some x → dep x ≤ depL xs
  | [], _, _, h => by simp at h
  | y :: ys, 0, x, e => by
    simp at e
    subst e
    simp only [depL]
    omega
  | y :: ys, i + 1, x, e => by
    have := depL_get (xs := ys) (i := i) (x := x) (by simpa using e)
    simp only [depL]
    omega
theorem likeL_zip : ∀ {xs ys : List D}, xs.length = ys.length → likeL xs ys = ((xs.zip ys).map fun p => likeD p.1 p.2).all id
  | [], [], _ => by simp [likeL]
  | _ :: _, [], h => by simp at h
  | [], _ :: _, h => by simp at h
  | x :: xs, y :: ys, h => by
    simp only [likeL, List.zip_cons_cons, List.map_cons, List.all_cons, id]
    rw [likeL_zip (by simpa using h)]
def preLike (n : Nat) : List D → Prop := fun ds => ∃ x y, ds = [x, y] ∧ plD x = true ∧ plD y = true ∧ dep y ≤ n
def postLike : List D → D → Prop := fun ds d => ∃ x y, ds = [x, y] ∧ d = .bl (likeD x y)
theorem ty_of {d : D} (h : plD d = true) : ∃ a, tyName d = some a := by
  cases d <;> first | exact ⟨_, rfl⟩ | (simp only [plD, reduceCtorEq] at h)
/-- isinstance(x, (list, tuple)), the pair made on the way -/
theorem ev_isiT {F : Fm} {δ : List SD} {te : TE} {ta : TA} {P : D → Prop} (h : Ev F te δ fun x => EvA F ta δ fun cs => cs = [.ty "list", .ty "tuple"] ∧ ∃ a, tyName x = some a ∧ P (.bl (isTy a "list" || isTy a "tuple"))) :
    Ev F (tCB (rIsiT F.K) (tCons te (tCons (tTup ta) tNil))) δ P := fun M σ H Q c q => by
  refine h M σ H _ c fun v x H1 p1 c1 e1 r1 => ?_
  refine p1 M σ H1 _ c1 fun vs cs H2 p2 c2 e2 r2 => ?_
  obtain ⟨rfl, a, ha, p⟩ := p2
  cases r2 with
  | cons q1 r3 =>
  cases r3 with
  | cons q2 r4 =>
  cases r4
  cases q1
  cases q2
  refine ⟨sz_of (by decide), fun T hT => ?_⟩
  have s := same_new (o := HO.tup [V.ty "list", V.ty "tuple"]) hT
  have tx : TyX F.K (upd H2 T (.tup [V.ty "list", V.ty "tuple"])) v (.type a) := tyX_of ((r1.mono (hd_step c1 e2)).mono ((same_hd M H2).trans s)) ha
  refine ⟨v, T, _, .type a, [.type "list", .type "tuple"], isTy a "list" || isTy a "tuple", rfl, upd_same, .cons (.ty _) (.cons (.ty _) .nil), tx, ?_, q _ _ _ p (c2.same s) ((e1.trans e2).trans (StepB.of s)) (.bl _)⟩
  have hm := tyName_mem ha
  refine kitAny_cons (kit_ty (kit_isTy hm (by decide))) (fun h1 => ?_) (fun h1 => by rw [h1]; rfl)
  rw [h1, Bool.false_or]
  refine kitAny_cons (kit_ty (kit_isTy hm (by decide))) (fun h2 => ?_) (fun h2 => h2)
  rw [h2]
  exact kitAny_nil

def preL : Nat → List D → Prop
  | 0 => fun _ => False
  | n + 1 => preLike n
theorem isTy_of {d : D} {a : String} (h : tyName d = some a) (n : String) : isTy a n = isD d n := by unfold isD; rw [h]
theorem pairs_get {xs ys : List D} {i : Nat} {d : D} (h : (pairs xs ys)[i]? = some d) : ∃ x y, xs[i]? = some x ∧ ys[i]? = some y ∧ d = .tup [x, y] := by
  unfold pairs at h
  rw [List.getElem?_map] at h
  cases e : (xs.zip ys)[i]? with
  | none => rw [e] at h; cases h
  | some p =>
    rw [e] at h
    obtain ⟨h1, h2⟩ := List.getElem?_zip_eq_some.mp e
    exact ⟨p.1, p.2, h1, h2, (Option.some.inj h).symm⟩
theorem ok_like_ {P : Program} {w : World} {K : PySem.W.Frag} {mg : Str → Option Value} {base : Heap} (T : Txt K mg) (n : Nat) (G : FnOk P w K mg base CX0 n T.f_like T.fd_like ["_law_found", "_law_due"] (spD K (preL n) postLike)) :
    FnOk P w K mg base CX0 (n + 1) T.f_like T.fd_like ["_law_found", "_law_due"] (spD K (preLike n) postLike) := by
  refine T.F_like.ok sc_like (spD_len fun ds ⟨x, y, e, _⟩ => by rw [e]; rfl) (fun cdv A outer s H vs Q E hr h => ?_)
  refine ⟨_, (pss_cons (ps_if (pt_val (pe_callB (callIsiT K) (by rfl) T.b_isinstance (by decide +kernel) (pa_cons (pv 1) (pa_cons (pe_tup (pa_cons (pe_bltn (v := .ty "list") (by rfl) T.b_list (by decide +kernel) rfl) (pa_cons (pe_bltn (v := .ty "tuple") (by rfl) T.b_tuple (by decide +kernel) rfl) pa_nil))) pa_nil)))) (pss_cons (ps_if (PW.pt (pw_or (pt_cmpR op_ne (pe_callB (callIsi K) (by rfl) T.b_isinstance (by decide +kernel) (pa_cons (pv 0) (pa_cons (pe_bltn (v := .ty "list") (by rfl) T.b_list (by decide +kernel) rfl) pa_nil))) (pe_callB (callIsi K) (by rfl) T.b_isinstance (by decide +kernel) (pa_cons (pv 1) (pa_cons (pe_bltn (v := .ty "list") (by rfl) T.b_list (by decide +kernel) rfl) pa_nil))) (nomark _)) (pw_or1 (pt_cmpR op_ne (pe_callB (callIsi K) (by rfl) T.b_isinstance (by decide +kernel) (pa_cons (pv 0) (pa_cons (pe_bltn (v := .ty "tuple") (by rfl) T.b_tuple (by decide +kernel) rfl) pa_nil))) (pe_callB (callIsi K) (by rfl) T.b_isinstance (by decide +kernel) (pa_cons (pv 1) (pa_cons (pe_bltn (v := .ty "tuple") (by rfl) T.b_tuple (by decide +kernel) rfl) pa_nil))) (nomark _))))) (pss_one (ps_ret pe_bl)) pss_nil)
      (pss_one (ps_ret (pe_and (pe_cmpR op_eq (pe_callB (callLen K) (by rfl) T.b_len (by decide +kernel) (pa_cons (pv 0) pa_nil)) (pe_callB (callLen K) (by rfl) T.b_len (by decide +kernel) (pa_cons (pv 1) pa_nil)) (nomark _)) (pe_one (pe_callB (callAll K) (by rfl) T.b_all (by decide +kernel) (pa_cons (pe_lc (own := [("_law_one", 2), ("_law_other", 3)]) rfl sc_like.nd (pi_zipA (by rfl) T.b_zip (pa_cons (pv 0) (pa_cons (pv 1) pa_nil))) (blkOk_by (N := N_like) (sc := defScope s_like) (by decide +kernel)) (fun _ _ _ _ _ => (pgTup K (n := 2) rfl (pgs_cons (pg_name (i := 2) sc_like.nd rfl (Or.inl rfl)) (pgs_cons (pg_name (i := 3) sc_like.nd rfl (Or.inl rfl)) pgs_nil)))) (fun _ _ _ _ _ => pts_nil) (fun _ _ _ _ _ => (pe_call G hr rfl T.g_like T.k_like T.bd_like .nil pass0 (pa_cons (pv 2) (pa_cons (pv 3) pa_nil))))) pa_nil))))))) pss_nil)
    (pss_cons (ps_if (PW.pt (pw_or (pt_cmpR op_isN (pv 1) pe_non (nomark _)) (pw_or1 (pt_cmpR op_isN (pv 0) pe_non (nomark _))))) (pss_one (ps_ret (pe_and (pe_cmpR op_isN (pv 1) pe_non (nomark _)) (pe_one (pe_cmpR op_isN (pv 0) pe_non (nomark _)))))) pss_nil)
    (pss_cons (ps_if (PW.pt (pw_or (pt_cmpR op_ne (pe_callB (callIsi K) (by rfl) T.b_isinstance (by decide +kernel) (pa_cons (pv 0) (pa_cons (pe_bltn (v := .ty "bool") (by rfl) T.b_bool (by decide +kernel) rfl) pa_nil))) (pe_callB (callIsi K) (by rfl) T.b_isinstance (by decide +kernel) (pa_cons (pv 1) (pa_cons (pe_bltn (v := .ty "bool") (by rfl) T.b_bool (by decide +kernel) rfl) pa_nil))) (nomark _)) (pw_or1 (pt_cmpR op_ne (pe_callB (callIsi K) (by rfl) T.b_isinstance (by decide +kernel) (pa_cons (pv 0) (pa_cons (pe_bltn (v := .ty "int") (by rfl) T.b_int (by decide +kernel) rfl) pa_nil))) (pe_callB (callIsi K) (by rfl) T.b_isinstance (by decide +kernel) (pa_cons (pv 1) (pa_cons (pe_bltn (v := .ty "int") (by rfl) T.b_int (by decide +kernel) rfl) pa_nil))) (nomark _))))) (pss_one (ps_ret pe_bl)) pss_nil)
    (pss_one (ps_ret (pe_and (pe_cmpR op_eq (pe_callB (callIsi K) (by rfl) T.b_isinstance (by decide +kernel) (pa_cons (pv 0) (pa_cons (pe_bltn (v := .ty "str") (by rfl) T.b_str (by decide +kernel) rfl) pa_nil))) (pe_callB (callIsi K) (by rfl) T.b_isinstance (by decide +kernel) (pa_cons (pv 1) (pa_cons (pe_bltn (v := .ty "str") (by rfl) T.b_str (by decide +kernel) rfl) pa_nil))) (nomark _)) (pe_one (pe_cmpR op_eq (pv 0) (pv 1) (nomark _))))))))), ?_⟩
  refine enterD h fun M ds pre _ => ?_
  obtain ⟨x, y, rfl, px, py, hd⟩ := pre
  obtain ⟨a, ha⟩ := ty_of px
  obtain ⟨b, hb⟩ := ty_of py
  have isx : ∀ {n : String} {P : D → Prop}, n ∈ tyAsk → P (.bl (isD x n)) → CallD K (rIsi K) [x, .ty n] P := fun hn p => cd_isi ha hn p
  have isy : ∀ {n : String} {P : D → Prop}, n ∈ tyAsk → P (.bl (isD y n)) → CallD K (rIsi K) [y, .ty n] P := fun hn p => cd_isi hb hn p
  refine do_seq (do_if (et_B (ev_isiT (ev_var rfl ?_))))
  refine ea_cons (ev_ty (ea_cons (ev_ty (ea_nil ⟨rfl, b, hb, _, rfl, fun hl => ?_, fun hl => ?_⟩))))
  · -- a list or a tuple is due
    have hdy : isD y "list" = true ∨ isD y "tuple" = true := by
      rw [isTy_of hb, isTy_of hb, Bool.or_eq_true] at hl
      exact hl
    refine do_seq (do_if (et_or (et_test ?_)))
    repeat (first | walk_at "ev" | refine isx (by decide) ?_ | refine isy (by decide) ?_)
    refine ⟨_, rfl, fun h1 => et_test ?_, fun h1 => ⟨fun _ => ?_, fun h => nomatch h⟩⟩
    · repeat (first | walk_at "ev" | refine isx (by decide) ?_ | refine isy (by decide) ?_)
      refine ⟨_, rfl, fun h2 => ?_, fun h2 => ?_⟩
      · refine do_ret (ev_bl ⟨x, y, rfl, ?_⟩)
        cases x <;> cases y <;> first | rfl | (simp [isD, tyName, isTy] at h1 h2 hdy)
      · refine do_next ?_
        obtain ⟨xs, ys, hxy⟩ : ∃ xs ys, (x = .lst xs ∧ y = .lst ys) ∨ (x = .tup xs ∧ y = .tup ys) := by
          cases x <;> cases y <;> first | exact ⟨_, _, .inl ⟨rfl, rfl⟩⟩ | exact ⟨_, _, .inr ⟨rfl, rfl⟩⟩ | (simp [isD, tyName, isTy] at h1 h2 hdy)
        have hlx : lenD x = some xs.length := by rcases hxy with ⟨rfl, _⟩ | ⟨rfl, _⟩ <;> rfl
        have hly : lenD y = some ys.length := by rcases hxy with ⟨_, rfl⟩ | ⟨_, rfl⟩ <;> rfl
        have pxs : xs.length ≤ 10000 ∧ plL xs = true := by
          rcases hxy with ⟨rfl, _⟩ | ⟨rfl, _⟩ <;> (simp only [plD, Bool.and_eq_true, decide_eq_true_eq] at px; exact px)
        have pys : ys.length ≤ 10000 ∧ plL ys = true := by
          rcases hxy with ⟨_, rfl⟩ | ⟨_, rfl⟩ <;> (simp only [plD, Bool.and_eq_true, decide_eq_true_eq] at py; exact py)
        have hdl : depL ys + 1 ≤ n := by
          rcases hxy with ⟨_, rfl⟩ | ⟨_, rfl⟩ <;> (simp only [dep] at hd; exact hd)
        have hlk : likeD x y = likeL xs ys := by rcases hxy with ⟨rfl, rfl⟩ | ⟨rfl, rfl⟩ <;> simp only [likeD]
        obtain ⟨k, rfl⟩ : ∃ k, n = k + 1 := ⟨n - 1, by omega⟩
        refine do_ret ?_
        repeat (first | walk_at "ev" | refine cd_lenK hlx (by omega) ?_ | refine cd_lenK hly (by omega) ?_)
        refine ⟨_, rfl, fun h3 => ?_, fun h3 => ⟨x, y, rfl, ?_⟩⟩
        · have hxl : xs.length = ys.length := by
            have := of_decide_eq_true h3
            omega
          refine ev_cb (ea_cons (EvN.ev ?_))
          refine en_lc (js := [2, 3]) (PX := fun l => l = pairs xs ys) (it_zipA ?_) (fun l e => ?_) (by decide) (fun l i acc => acc = (((xs.zip ys).take i).map fun p => D.bl (likeD p.1 p.2))) (fun l e => rfl) ?_ ?_
          · refine ea_cons (ev_var rfl (ea_cons (ev_var rfl (ea_nil ⟨xs, ys, ?_, rfl⟩))))
            rcases hxy with ⟨rfl, rfl⟩ | ⟨rfl, rfl⟩
            · exact .inl rfl
            · exact .inr rfl
          · subst e
            unfold pairs
            rw [List.length_map, List.length_zip]
            omega
          · rintro l i d acc rfl hi rfl
            obtain ⟨u, v, hu, hv, rfl⟩ := pairs_get hi
            refine tg_tup rfl ?_
            refine tgs_cons (tg_name (tgs_cons (tg_name (tgs_nil ?_))))
            refine et_yes ⟨fun _ => ?_, fun h => nomatch h⟩
            refine ev_call ?_
            refine ea_cons (ev_var rfl (ea_cons (ev_var rfl (ea_nil ⟨⟨u, v, rfl, plL_get pxs.2 hu, plL_get pys.2 hv, ?_⟩, fun d hd => ?_⟩))))
            · have := depL_get hv
              omega
            · obtain ⟨u', v', e, rfl⟩ := hd
              cases e
              have hz : (xs.zip ys)[i]? = some (u, v) := List.getElem?_zip_eq_some.mpr ⟨hu, hv⟩
              rw [List.take_succ, hz]
              simp
          · rintro l ds rfl rfl
            have hfull : ((xs.zip ys).take (pairs xs ys).length) = xs.zip ys := by
              unfold pairs
              rw [List.length_map, List.take_length]
            rw [hfull]
            have : ((xs.zip ys).map fun p => D.bl (likeD p.1 p.2)) = blD ((xs.zip ys).map fun p => likeD p.1 p.2) := by unfold blD; rw [List.map_map]; rfl
            rw [this]
            refine ea_nil (cd_all ⟨x, y, rfl, ?_⟩)
            rw [hlk, likeL_zip hxl]
        · have : likeL xs ys = false := by
            cases e : likeL xs ys with
            | false => rfl
            | true =>
              have := likeL_len e
              rw [this] at h3
              simp at h3
          rw [hlk, this]
    · refine do_ret (ev_bl ⟨x, y, rfl, ?_⟩)
      cases x <;> cases y <;> first | rfl | (simp [isD, tyName, isTy] at h1 hdy)
  · -- a scalar is due
    refine do_next ?_
    have hny : isD y "list" = false ∧ isD y "tuple" = false := by
      rw [isTy_of hb, isTy_of hb, Bool.or_eq_false_iff] at hl
      exact hl
    refine do_seq (do_if (et_or (et_test ?_)))
    repeat walk_at "ev"
    refine ⟨_, rfl, fun h1 => et_test ?_, fun h1 => ⟨fun _ => ?_, fun h => nomatch h⟩⟩
    · repeat walk_at "ev"
      refine ⟨_, rfl, fun h2 => ?_, fun h2 => ?_⟩
      · refine do_ret ?_
        repeat walk_at "ev"
        refine ⟨_, rfl, fun h3 => ?_, fun _ => ⟨x, y, rfl, ?_⟩⟩
        · rw [h1] at h3
          cases h3
        · cases x <;> cases y <;> first | rfl | (simp [isNon, isD, tyName, isTy] at h1 h2 hny)
      · refine do_next ?_
        refine do_seq (do_if (et_or (et_test ?_)))
        repeat (first | walk_at "ev" | refine isx (by decide) ?_ | refine isy (by decide) ?_)
        refine ⟨_, rfl, fun h3 => et_test ?_, fun h3 => ⟨fun _ => ?_, fun h => nomatch h⟩⟩
        · repeat (first | walk_at "ev" | refine isx (by decide) ?_ | refine isy (by decide) ?_)
          refine ⟨_, rfl, fun h4 => ?_, fun h4 => ?_⟩
          · refine do_ret (ev_bl ⟨x, y, rfl, ?_⟩)
            cases x <;> cases y <;> first | rfl | (simp [isNon, isD, tyName, isTy] at h1 h2 h3 h4 hny)
          · refine do_next (do_ret ?_)
            refine ev_and ?_
            repeat (first | walk_at "ev" | refine isx (by decide) ?_ | refine isy (by decide) ?_)
            refine ⟨_, rfl, fun h5 => ?_, fun h5 => ⟨x, y, rfl, ?_⟩⟩
            · refine ev_op (ev_var rfl (ev_var rfl ?_))
              cases x <;> cases y <;> first
                | (simp [isNon, isD, tyName, isTy] at h1 h2 h3 h4 h5 hny; done)
                | exact od_eq_bl ⟨_, _, rfl, by simp only [likeD, Bool.beq_eq_decide_eq]⟩
                | exact od_eq_int ⟨_, _, rfl, by simp only [likeD, Bool.beq_eq_decide_eq]⟩
                | exact od_eq_str ⟨_, _, rfl, by simp only [likeD]⟩
                | (simp [plD] at px; done)
                | (simp [plD] at py; done)
            · cases x <;> cases y <;> first | rfl | (simp [isNon, isD, tyName, isTy] at h1 h2 h3 h4 h5 hny)
        · refine do_ret (ev_bl ⟨x, y, rfl, ?_⟩)
          cases x <;> cases y <;> first | rfl | (simp [isNon, isD, tyName, isTy] at h1 h2 h3 hny)
    · refine do_ret ?_
      repeat walk_at "ev"
      refine ⟨_, rfl, fun h3 => ?_, fun h3 => ⟨x, y, rfl, ?_⟩⟩
      · repeat walk_at "ev"
        refine ⟨x, y, rfl, ?_⟩
        cases x <;> cases y <;> first | rfl | (simp [isNon] at h1)
      · rw [h1] at h3
        cases h3
theorem ok_like {P : Program} {w : World} {K : PySem.W.Frag} {mg : Str → Option Value} {base : Heap} (T : Txt K mg) : ∀ n, FnOk P w K mg base CX0 (n + 1) T.f_like T.fd_like ["_law_found", "_law_due"] (spD K (preLike n) postLike) := by
  intro n
  induction n with
  | zero => exact ok_like_ T 0 ⟨fun vs H Q E ⟨_, _, _, _, p, _⟩ => p.elim, fun A outer s H args us vs Q E _ _ _ _ ⟨_, _, _, _, p, _⟩ => p.elim⟩
  | succ n ih => exact ok_like_ T (n + 1) ih
/-! ### the bag is made -/
def spOpen (K : PySem.W.Frag) : Sp := fun vs H Q _ => ∃ (a : Addr) (ns : List Int), vs = [.ref a] ∧ SqL K H a (ns.map V.int) ∧ ns.length ≤ 63 ∧ ∀ b c H', H b = none → Same H H' → BagAt H' b c → Q (.ref b) H'
theorem cut63 {ns : List Int} (h : ns.length ≤ 63) : cutV (ns.map V.int) none (some 63) = ns.map V.int := by
  unfold cutV
  have e1 : HT.sIx (ns.map V.int).length 0 none = 0 := rfl
  have e2 : HT.sIx (ns.map V.int).length (ns.map V.int).length (some 63) = ns.length := by
    rw [List.length_map]
    have := HT.sIx_nat ns.length ns.length 63
    rw [show ((63 : Nat) : Int) = 63 from rfl] at this
    rw [this]
    omega
  rw [e1, e2, List.drop_zero, Nat.sub_zero]
  exact List.take_of_length_le (by rw [List.length_map]; exact Nat.le_refl _)
theorem ok_open {P : Program} {w : World} {K : PySem.W.Frag} {mg : Str → Option Value} {base : Heap} (T : Txt K mg) : FnOk P w K mg base CX0 2 T.f_open T.fd_open ["_law_script"] (spOpen K) := by
  refine T.F_open.ok sc_open (fun vs H Q E h => ?_) (fun cdv A outer s H vs Q E hr h => ?_)
  · obtain ⟨a, ns, rfl, _⟩ := h
    rfl
  refine ⟨_, (pss_one (ps_ret (pe_lst (pa_cons (pe_callTy (callList K) (by rfl) T.b_list (by decide +kernel) (pa_cons (pe_slice (slL K) (pv 0) po_none (po_some pe_int)) pa_nil)) (pa_cons pe_int (pa_cons pe_int (pa_cons pe_int (pa_cons pe_int pa_nil)))))))), ?_⟩
  obtain ⟨a, ns, rfl, hs, hn, q⟩ := h
  refine ⟨_, rfl, 63, rfl, _, _, rfl, hs, fun p hp => ?_⟩
  have s1 : Same H (upd H p (.lst (cutV (ns.map V.int) none (some 63)))) := same_new hp
  refine ⟨p, _, rfl, .inl (SqL.of upd_same), fun c hc => ?_⟩
  refine ⟨sz_of (show 5 ≤ 100000 by decide), fun b hb => ?_⟩
  have hcp : c ≠ p := fun e => by
    rw [e, upd_same] at hc
    cases hc
  have hbc : c ≠ b := fun e => by
    rw [← e, upd_same] at hb
    cases hb
  refine q b c _ ?_ (fun x o h => ?_) ⟨ns, 0, 0, 100081, 0, upd_same, hbc, by rw [upd_ne hbc, upd_same, cut63 hn], Nat.zero_le _, hn, Int.le_refl _, by decide, by decide, Int.le_refl _⟩
  · cases z : H b with
    | none => rfl
    | some o =>
      have h1 : b ≠ p := ne_of_none z hp
      have h2 : (upd H p (.lst (cutV (ns.map V.int) none (some 63)))) b = some o := by rw [upd_ne h1]; exact z
      have h3 : b ≠ c := ne_of_none h2 hc
      rw [upd_ne h3, h2] at hb
      cases hb
  · have h2 := s1 x o h
    have h3 : (upd (upd H p (.lst (cutV (ns.map V.int) none (some 63)))) c (.lst (cutV (ns.map V.int) none (some 63)))) x = some o := by rw [upd_ne (ne_of_none h2 hc)]; exact h2
    rw [upd_ne (ne_of_none h3 hb)]
    exact h3
/-! ### the law's own frame: the bag in slot 1, nothing else known -/
theorem lawDo {K : PySem.W.Frag} {N : List Str} {H1 : Hp} {b c : Addr} {t : TS} {Q : VK} {σ : L2.St} {δ : List SD} (ba : BagAt H1 b c) (hl : σ.length = δ.length) (h1 : σ[1]? = some (some (.ref b))) (hδ : ∀ i x, δ[i]? = some x → x = .un ∨ (i = 1 ∧ x = .bag))
    (hb : ∀ (M0 : Addr → Bool) (E : XK), Do ⟨K, some b, M0, H1, E, c, []⟩ t δ { nx := fun _ => False, rt := fun d => d = .bl true }) (q : ∀ H', Q (.bl true) H') : t { nx := fun _ H' => Q .non H', rt := Q } σ H1 := by
  have hc : ∃ o, H1 c = some o := by
    obtain ⟨ns, i, z, s, t, _, _, h3, _⟩ := ba
    exact ⟨_, h3⟩
  have al : ∀ a, decide (a = b) = true → ∃ o, H1 a = some o := fun a h => by
    have := of_decide_eq_true h
    subst this
    exact ba.at
  have cx : Ctx ⟨K, some b, fun a => decide (a = b), H1, fun _ _ _ => True, c, []⟩ (fun a => decide (a = b)) σ H1 δ := by
    refine ⟨al, al, fun _ h => h, StepB.refl _ _, ⟨fun b' z => ?_, fun a h => (nomatch h)⟩, hl, fun i x hx => ?_, fun i j p ds es h1 h2 => ?_, fun i p ds h => ?_⟩
    · cases z
      exact ⟨decide_eq_true rfl, ba, hc⟩
    · have hi : i < σ.length := by
        have := (List.getElem?_eq_some_iff.mp hx).1
        omega
      rcases hδ i x hx with rfl | ⟨rfl, rfl⟩
      · exact ⟨σ[i], by simp [hi], trivial⟩
      · exact ⟨_, h1, b, rfl, rfl⟩
    · rcases hδ i _ h1 with z | ⟨_, z⟩ <;> cases z
    · rcases hδ i _ h with z | ⟨_, z⟩ <;> cases z
  refine hb _ _ _ σ H1 _ cx (fun _ _ _ _ p => p.elim) (fun v d M' σ' H' δ' p _ _ r => ?_) (fun _ _ _ _ p => p.elim) (fun _ _ _ _ p => p.elim)
  have e : d = .bl true := p
  subst e
  cases r
  exact q H'
/-- slots forgotten ahead of what follows -/
theorem Ctx.forget1 {F : Fm} {M : Addr → Bool} {σ : L2.St} {H : Hp} {δ : List SD} (c : Ctx F M σ H δ) (i : Nat) : Ctx F M σ H (δ.set i .un) := by
  refine ⟨c.al, c.al0, c.m0, c.fr, c.bg, by rw [List.length_set, c.ln], fun j x hx => ?_, fun j k p ds es h1 h2 => ?_, fun j p ds h => ?_⟩
  · rcases set_key hx with ⟨rfl, rfl, hl⟩ | ⟨hj, hx⟩
    · exact ⟨σ[i]'(by rw [c.ln]; exact hl), by simp, trivial⟩
    · exact c.sl j x hx
  · rcases set_key h1 with ⟨_, z, _⟩ | ⟨_, h1⟩
    · cases z
    rcases set_key h2 with ⟨_, z, _⟩ | ⟨_, h2⟩
    · cases z
    exact c.dj j k p ds es h1 h2
  · rcases set_key h with ⟨_, z, _⟩ | ⟨_, h⟩
    · cases z
    exact c.oh j p ds h
theorem Ctx.forget {F : Fm} {M : Addr → Bool} {σ : L2.St} {H : Hp} {δ : List SD} (c : Ctx F M σ H δ) : ∀ js : List Nat, Ctx F M σ H (wipeD δ js)
  | [] => c
  | j :: js => (Ctx.forget c js).forget1 j
theorem do_wk {F : Fm} {t : TS} {δ : List SD} {R : PD} (js : List Nat) (h : Do F t δ { R with nx := fun δ' => R.nx (wipeD δ' js), ct := fun δ' => R.ct (wipeD δ' js), bk := fun δ' => R.bk (wipeD δ' js) }) : Do F t δ R := fun M σ H E c a b k d =>
  h M σ H E c (fun M' σ' H' δ' p c' s => a M' σ' H' _ p (c'.forget js) s) b (fun M' σ' H' δ' p c' s => k M' σ' H' _ p (c'.forget js) s) (fun M' σ' H' δ' p c' s => d M' σ' H' _ p (c'.forget js) s)
/-- x = e, then the rest: what e is first -/
theorem do_letP {F : Fm} {te : TE} {u : TS} {δ : List SD} {R : PD} {i : Nat} (P : D → Prop) (h : Ev F te δ P) (k : ∀ x, P x → Do F u (δ.set i (.dat x)) R) : Do F (tSeq (tAsg te (gName i)) u) δ R :=
  do_seq (do_set (h.imp fun x p => k x p))
theorem do_let {F : Fm} {te : TE} {u : TS} {δ : List SD} {R : PD} {i : Nat} (v : D) (h : Ev F te δ (· = v)) (k : Do F u (δ.set i (.dat v)) R) : Do F (tSeq (tAsg te (gName i)) u) δ R :=
  do_letP _ h fun x e => by rw [e]; exact k
/-- a text's method of one argument, of none -/
theorem ev_m1 {F : Fm} {δ : List SD} {to te : TE} {r : V → List V → Hp → VK → Prop} {P : D → Prop} (h : Ev F to δ fun x => ∃ z, x = .str z ∧ Ev F te δ fun y => CallD F.K (fun vs H Q => ∃ u v, vs = [u, v] ∧ r u [v] H Q) [.str z, y] P) : Ev F (tM1 r to te) δ P := fun M σ H Q c q =>
  h M σ H _ c fun v x H1 p1 c1 e1 r1 => by
    obtain ⟨z, rfl, p⟩ := p1
    cases r1
    refine ⟨⟨z, rfl⟩, p M σ H1 _ c1 fun w y H2 p2 c2 e2 r2 => ?_⟩
    obtain ⟨u, v, e, h⟩ := p2 M H2 [.str z, w] Q c2.al (.cons (.str z) (.cons r2 .nil)) fun u d H3 p e r3 => q u d H3 p (c2.same e) ((e1.trans e2).trans (StepB.of e)) r3
    cases e
    exact h

/-- into the law behind bag = open(script) -/
def slotsL (N : List Str) : List SD := .un :: .bag :: List.replicate (N.length - 2) .un
def spLaw (K : PySem.W.Frag) : Sp := fun vs H Q _ => ∃ (a : Addr) (ns : List Int), vs = [.ref a] ∧ SqL K H a (ns.map V.int) ∧ ns.length ≤ 63 ∧ ∀ H', Q (.bl true) H'
theorem lawIn {K : PySem.W.Frag} {N : List Str} {vs : List V} {H : Hp} {t : TS} {Q : VK} {E E' : XK} (h : spLaw K vs H Q E) (hN : 2 ≤ N.length)
    (hb : ∀ (b c : Addr) (H1 : Hp) (M0 : Addr → Bool) (E : XK), Do ⟨K, some b, M0, H1, E, c, []⟩ t (slotsL N) { nx := fun _ => False, rt := fun d => d = .bl true }) :
    tSeq (tAsg (tCall (spOpen K) [] E' (tCons (tVar 0) tNil)) (gName 1)) t { nx := fun _ H' => Q .non H', rt := Q } (L2.start N vs) H := by
  obtain ⟨a, ns, rfl, hs, hn, q⟩ := h
  have hl : (L2.start N [V.ref a]).length = N.length := by
    unfold L2.start
    rw [List.length_append, List.length_replicate, List.length_map, List.length_cons, List.length_nil]
    omega
  refine ⟨.ref a, rfl, a, ns, rfl, hs, hn, fun b c H1 hb0 s1 ba => ?_⟩
  show t { nx := fun _ H' => Q .non H', rt := Q } ((L2.start N [V.ref a]).set 1 (some (.ref b))) H1
  refine lawDo (N := N) (δ := slotsL N) ba ?_ ?_ (fun i x h => ?_) (hb b c H1) q
  · unfold slotsL
    rw [List.length_set, hl, List.length_cons, List.length_cons, List.length_replicate]
    omega
  · rw [List.getElem?_set_self (by rw [hl]; omega)]
  · unfold slotsL at h
    match i, h with
    | 0, h => exact .inl (Option.some.inj h).symm
    | 1, h => exact .inr ⟨rfl, (Option.some.inj h).symm⟩
    | i + 2, h => exact .inl (List.eq_of_mem_replicate (List.mem_of_getElem? h))
section
variable {F : Fm} {δ : List SD} {ta : TA} {P : D → Prop} {E : XK} {i : Nat} {b : Addr}
theorem ev_draw (hb : F.B = some b) (hi : δ[i]? = some .bag) (h : EvA F ta δ fun ds => ∃ m, ds = [.int m] ∧ 0 < m ∧ m < 1073741824 ∧ ∀ r, 0 ≤ r → r < m → P (.int r)) : Ev F (tCall (spB F.K preDraw postDraw) [] E (tCons (tVar i) ta)) δ P :=
  ev_callB hb hi (h.imp fun ds ⟨m, e, h0, h1, p⟩ => ⟨⟨m, e, h0, h1⟩, fun d ⟨m', r, e', e2, h2, h3⟩ => by
    subst e
    cases e'
    subst e2
    exact p r h2 h3⟩)
theorem ev_of (hb : F.B = some b) (hi : δ[i]? = some .bag) (h : EvA F ta δ fun ds => ∃ x n, ds = [x] ∧ lenD x = some n ∧ 0 < n ∧ n ≤ 100000 ∧ ∀ k d, 0 ≤ k → k < (n : Int) → atD x k = some d → P d) : Ev F (tCall (spB F.K preOf postOf) [] E (tCons (tVar i) ta)) δ P :=
  ev_callB hb hi (h.imp fun ds ⟨x, n, e, h0, h1, h2, p⟩ => ⟨⟨x, n, e, h0, h1, h2⟩, fun d ⟨x', n', k, e', e2, h3, h4, h5⟩ => by
    subst e
    cases e'
    rw [h0] at e2
    cases e2
    exact p k d h3 h4 h5⟩)
theorem atI_mem {α : Type} {xs : List α} {k : Int} {d : α} (h : atI xs k = some d) : d ∈ xs := by
  obtain ⟨j, _, h2, _⟩ := atI_get h
  exact List.mem_of_getElem? h2
/-- one of a list | of a text -/
theorem ev_ofL (hb : F.B = some b) (hi : δ[i]? = some .bag) (h : EvA F ta δ fun ds => ∃ xs, ds = [.lst xs] ∧ xs ≠ [] ∧ xs.length ≤ 100000 ∧ ∀ d ∈ xs, P d) : Ev F (tCall (spB F.K preOf postOf) [] E (tCons (tVar i) ta)) δ P :=
  ev_of hb hi (h.imp fun ds ⟨xs, e, h0, h1, p⟩ => ⟨_, xs.length, e, rfl, List.length_pos_iff.mpr h0, h1, fun k d _ _ h2 => p d (atI_mem h2)⟩)
theorem ev_ofS (hb : F.B = some b) (hi : δ[i]? = some .bag) (h : EvA F ta δ fun ds => ∃ z : Str, ds = [.str z] ∧ 0 < z.length ∧ z.length ≤ 100000 ∧ ∀ c ∈ z.cps.toList, P (.str ⟨#[c]⟩)) : Ev F (tCall (spB F.K preOf postOf) [] E (tCons (tVar i) ta)) δ P :=
  ev_of hb hi (h.imp fun ds ⟨z, e, h0, h1, p⟩ => ⟨_, z.length, e, rfl, h0, h1, fun k d _ _ h2 => by
    have h3 : (atI z.cps.toList k).map (fun c => D.str ⟨#[c]⟩) = some d := h2
    cases e2 : atI z.cps.toList k with
    | none => rw [e2] at h3; cases h3
    | some c =>
      rw [e2] at h3
      cases h3
      exact p c (atI_mem e2)⟩)
theorem ev_like {n : Nat} (h : EvA F ta δ fun ds => ∃ x y, ds = [x, y] ∧ plD x = true ∧ plD y = true ∧ dep y ≤ n ∧ P (.bl (likeD x y))) : Ev F (tCall (spD F.K (preLike n) postLike) [] E ta) δ P :=
  ev_call (h.imp fun ds ⟨x, y, e, h0, h1, h2, p⟩ => ⟨⟨x, y, e, h0, h1, h2⟩, fun d ⟨x', y', e', e2⟩ => by
    subst e
    cases e'
    subst e2
    exact p⟩)
end
/-! texts -/
def strD (zs : List Str) : List D := zs.map .str
theorem repL_str {K : PySem.W.Frag} {H : Hp} : ∀ {vs : List V} {zs : List Str}, RepL K H vs (strD zs) → vs = zs.map V.str
  | _, [], .nil => rfl
  | _, b :: bs, .cons (.str _) r => by rw [List.map_cons, repL_str (zs := bs) r]
theorem cd_join {K : PySem.W.Frag} {P : D → Prop} {a : Str} {ys : List Str} (hz : (ys.map (·.length)).sum + ys.length * a.length ≤ 16777216) (p : P (.str (Txt.join a ys))) :
    CallD K (fun vs H Q => ∃ u v, vs = [u, v] ∧ ∃ a p, ∃ ys : List Str, u = V.str a ∧ [v] = [V.ref p] ∧ (SqL K H p (ys.map V.str) ∨ SqT K H p (ys.map V.str)) ∧ (ys.map (·.length)).sum + ys.length * a.length ≤ 16777216 ∧ Q (.str (Txt.join a ys)) H) [.str a, .lst (strD ys)] P := fun M H vs Q al r q => by
  cases r with
  | cons r1 r2 =>
  cases r2 with
  | cons r2 r3 =>
  cases r3
  cases r1
  cases r2 with
  | lst h1 h2 =>
    have e := repL_str h2
    subst e
    exact ⟨_, _, rfl, a, _, ys, rfl, rfl, .inl (SqL.of (hd_of h1).2), hz, q _ _ H p (Same.refl H) (.str _)⟩
theorem joinL_nil : ∀ ls : List (List Nat), TL.joinL [] ls = ls.flatten
  | [] => rfl
  | [p] => by simp [TL.joinL]
  | p :: q :: r => by
    show p ++ ([] ++ TL.joinL [] (q :: r)) = _
    rw [joinL_nil (q :: r)]
    simp
theorem join_signs (cs : List Nat) : Txt.join (Str.ofString "") (cs.map fun c => (⟨#[c]⟩ : Str)) = ⟨cs.toArray⟩ := by
  have h : TL.tl (Txt.join (Str.ofString "") (cs.map fun c => (⟨#[c]⟩ : Str))) = cs := by
    rw [TL.join_eq, TL.tl_join]
    have e : TL.tl (Str.ofString "") = [] := by decide +kernel
    rw [e, joinL_nil, List.map_map]
    show (cs.map fun c => [c]).flatten = cs
    induction cs with
    | nil => rfl
    | cons c cs ih => rw [List.map_cons, List.flatten_cons, ih]; rfl
  have h2 : (Txt.join (Str.ofString "") (cs.map fun c => (⟨#[c]⟩ : Str))).cps.toList = cs := h
  generalize Txt.join (Str.ofString "") (cs.map fun c => (⟨#[c]⟩ : Str)) = z at h2
  obtain ⟨a⟩ := z
  have h3 : a.toList = cs := h2
  rw [← h3]
theorem sum_signs (cs : List Nat) : ((cs.map fun c => (⟨#[c]⟩ : Str)).map (·.length)).sum = cs.length := by
  induction cs with
  | nil => rfl
  | cons c cs ih =>
    rw [List.map_cons, List.map_cons, List.sum_cons, ih]
    show 1 + cs.length = cs.length + 1
    omega
theorem str_len (z : Str) : z.cps.toList.length = z.length := by simp [Str.length]
theorem add_len (a b : Str) : (a ++ b).length = a.length + b.length := by
  show (a.cps ++ b.cps).size = _
  rw [Array.size_append]
  rfl
/-! ### numbers and names -/
def isWh (x : D) : Bool := match x with
  | .int _ => true | _ => false
def isNum (x : D) (lo hi : Int) : Bool := match x with
  | .int i => decide (lo ≤ i) && decide (i ≤ hi) | _ => false
def preWh : List D → Prop := fun ds => ∃ x, ds = [x] ∧ plD x = true
def postWh : List D → D → Prop := fun ds d => ∃ x, ds = [x] ∧ d = .bl (isWh x)
theorem ok_is_whole {P : Program} {w : World} {K : PySem.W.Frag} {mg : Str → Option Value} {base : Heap} (T : Txt K mg) : FnOk P w K mg base CX0 1 T.f_is_whole T.fd_is_whole ["value"] (spD K preWh postWh) := by
  refine T.F_is_whole.ok sc_is_whole (spD_len fun ds ⟨x, e, _⟩ => by rw [e]; rfl) (fun cdv A outer s H vs Q E hr h => ?_)
  refine ⟨_, (pss_one (ps_ret (pe_and (pe_callB (callIsi K) (by rfl) T.b_isinstance (by decide +kernel) (pa_cons (pv 0) (pa_cons (pe_bltn (v := .ty "int") (by rfl) T.b_int (by decide +kernel) rfl) pa_nil))) (pe_one (pe_not (pe_callB (callIsi K) (by rfl) T.b_isinstance (by decide +kernel) (pa_cons (pv 0) (pa_cons (pe_bltn (v := .ty "bool") (by rfl) T.b_bool (by decide +kernel) rfl) pa_nil)))))))), ?_⟩
  refine enterD h fun M ds pre _ => ?_
  obtain ⟨x, rfl, px⟩ := pre
  obtain ⟨a, ha⟩ := ty_of px
  have isx : ∀ {n : String} {P : D → Prop}, n ∈ tyAsk → P (.bl (isD x n)) → CallD K (rIsi K) [x, .ty n] P := fun hn p => cd_isi ha hn p
  refine do_ret ?_
  repeat (first | walk_at "ev" | refine isx (by decide) ?_)
  refine ⟨_, rfl, fun h1 => ?_, fun h1 => ⟨x, rfl, ?_⟩⟩
  · repeat (first | walk_at "ev" | refine isx (by decide) ?_)
    refine ⟨_, rfl, ⟨x, rfl, ?_⟩⟩
    cases x <;> first | rfl | (simp [isD, tyName, isTy] at h1)
  · cases x <;> first | rfl | (simp [isD, tyName, isTy] at h1)
def preNum : List D → Prop := fun ds => ∃ x lo hi, ds = [x, .int lo, .int hi] ∧ plD x = true
def postNum : List D → D → Prop := fun ds d => ∃ x lo hi, ds = [x, .int lo, .int hi] ∧ d = .bl (isNum x lo hi)
theorem ok_is_number {P : Program} {w : World} {K : PySem.W.Frag} {mg : Str → Option Value} {base : Heap} (T : Txt K mg) : FnOk P w K mg base CX0 2 T.f_is_number T.fd_is_number ["value", "least", "most"] (spD K preNum postNum) := by
  refine T.F_is_number.ok sc_is_number (spD_len fun ds ⟨x, lo, hi, e, _⟩ => by rw [e]; rfl) (fun cdv A outer s H vs Q E hr h => ?_)
  refine ⟨_, (pss_one (ps_ret (pe_and (pe_call (ok_is_whole T) (hr.mono (by decide)) rfl T.g_is_whole T.k_is_whole T.bd_is_whole .nil pass0 (pa_cons (pv 0) pa_nil)) (pe_one (pe_chain op_le op_le (pv 1) (pv 0) (pv 2)))))), ?_⟩
  refine enterD h fun M ds pre _ => ?_
  obtain ⟨x, lo, hi, rfl, px⟩ := pre
  refine do_ret (ev_and (ev_call (ea_cons (ev_var rfl (ea_nil ⟨⟨x, rfl, px⟩, fun d hd => ?_⟩)))))
  obtain ⟨x', e', rfl⟩ := hd
  cases e'
  refine ⟨_, rfl, fun h1 => ?_, fun h1 => ⟨x, lo, hi, rfl, ?_⟩⟩
  · obtain ⟨i, rfl⟩ : ∃ i, x = .int i := by
      cases x <;> first | exact ⟨_, rfl⟩ | cases h1
    repeat walk_at "ev"
    refine ⟨_, rfl, fun h3 => ?_, fun h3 => ⟨_, lo, hi, rfl, ?_⟩⟩
    · repeat walk_at "ev"
      refine ⟨_, lo, hi, rfl, ?_⟩
      simp only [isNum, h3, Bool.true_and]
    · simp only [isNum, h3, Bool.false_and]
  · cases x <;> first | rfl | cases h1

end Pf

namespace Pf
open PySem L2 RZ
local macro_rules | `(tactic| walk_at "ev") => `(tactic| first
  | ((with_reducible refine' ev_var ?h ?_); (case h => rfl))
  | with_reducible refine ev_int ?_
  | with_reducible refine ev_bl ?_
  | with_reducible refine ev_str ?_
  | with_reducible refine ev_non ?_
  | with_reducible refine ev_ty ?_
  | with_reducible refine ev_op ?_
  | with_reducible refine ev_un ?_
  | with_reducible refine ev_chain ?_
  | with_reducible refine ev_if ?_
  | with_reducible refine ev_and ?_
  | with_reducible refine ev_or ?_
  | with_reducible refine ev_not ?_
  | with_reducible refine ev_lst ?_
  | with_reducible refine ev_tup ?_
  | with_reducible refine ea_nil ?_
  | with_reducible refine ea_cons ?_
  | with_reducible refine ev_cb ?_
  | with_reducible refine et_test ?_
  | with_reducible refine et_B ?_
  | with_reducible refine et_and ?_
  | with_reducible refine et_or ?_
  | with_reducible refine et_not ?_
  | with_reducible refine et_yes ?_
  | with_reducible refine eo_none ?_
  | with_reducible refine eo_some ?_
  | with_reducible refine ev_slS ?_
  | with_reducible refine od_int ?_
  | with_reducible refine od_bl ?_
  | with_reducible refine od_eq_int ?_
  | with_reducible refine od_ne_int ?_
  | with_reducible refine od_eq_bl ?_
  | with_reducible refine od_ne_bl ?_
  | with_reducible refine od_eq_str ?_
  | with_reducible refine od_ne_str ?_
  | with_reducible refine od_leS ?_
  | with_reducible refine ud_isN ?_
  | with_reducible refine ud_notN ?_
  | with_reducible refine do_seq ?_
  | with_reducible refine do_set ?_
  | with_reducible refine do_ret ?_
  | with_reducible refine do_retN ?_
  | with_reducible refine do_if ?_
  | with_reducible refine do_next ?_
  | with_reducible refine tg_name ?_
  | with_reducible refine tgs_nil ?_
  | with_reducible refine tgs_cons ?_)
/-! ### rows and tables on data -/
abbrev Row := Int × Int × List Int
def rowD (r : Row) : D := .tup [.int r.1, .int r.2.1, .tup (r.2.2.map .int)]
def rowsD (rs : List Row) : List D := rs.map rowD
/-- lo at least, ascending, below P -/
def Asc (lo P : Int) : List Int → Prop
  | [] => True
  | p :: ps => lo ≤ p ∧ p ≤ P - 1 ∧ Asc (p + 1) P ps
structure GoodRow (P : Int) (r : Row) : Prop where
  k0 : -1000000000 ≤ r.1
  k1 : r.1 ≤ 1000000000
  n0 : 0 ≤ r.2.1
  n1 : r.2.1 ≤ 1000000000
  ne : r.2.2 ≠ []
  as : Asc 0 P r.2.2
structure GoodRows (P : Int) (rs : List Row) : Prop where
  rw : ∀ r ∈ rs, GoodRow P r
  nd : (rs.map fun r => r.2.1).Nodup
  sz : rs.length ≤ 300
theorem Asc.len {P : Int} : ∀ {lo : Int} {ps : List Int}, Asc lo P ps → lo ≤ P → (ps.length : Int) ≤ P - lo
  | lo, [], _, h => by simp; omega
  | lo, p :: ps, ⟨h1, h2, h3⟩, h => by
    have := Asc.len h3 (by omega)
    rw [List.length_cons]
    omega
theorem ev_num {F : Fm} {δ : List SD} {ta : TA} {P : D → Prop} {E : XK} (h : EvA F ta δ fun ds => ∃ x lo hi, ds = [x, .int lo, .int hi] ∧ plD x = true ∧ P (.bl (isNum x lo hi))) : Ev F (tCall (spD F.K preNum postNum) [] E ta) δ P :=
  ev_call (h.imp fun ds ⟨x, lo, hi, e, px, p⟩ => ⟨⟨x, lo, hi, e, px⟩, fun d ⟨x', lo', hi', e', ed⟩ => by
    subst e
    cases e'
    subst ed
    exact p⟩)
theorem isNum_yes {i lo hi : Int} (h1 : lo ≤ i) (h2 : i ≤ hi) : isNum (.int i) lo hi = true := by simp [isNum, h1, h2]
def preParts : List D → Prop := fun ds => ∃ P : Int, ds = [.int P] ∧ 1 ≤ P ∧ P ≤ 4
def postNon : List D → D → Prop := fun _ d => d = .non
theorem ok__check_parts {P : Program} {w : World} {K : PySem.W.Frag} {mg : Str → Option Value} {base : Heap} (T : Txt K mg) : FnOk P w K mg base CX0 4 T.f__check_parts T.fd__check_parts ["parts"] (spD K preParts postNon) := by
  refine T.F__check_parts.ok sc__check_parts (spD_len fun ds ⟨P, e, _⟩ => by rw [e]; rfl) (fun cdv A outer s H vs Q E hr h => ?_)
  refine ⟨_, (pss_one (ps_if (pt_not (pt_val (pe_call (ok_is_number T) (hr.mono (by decide)) rfl T.g_is_number T.k_is_number T.bd_is_number .nil pass0 (pa_cons (pv 0) (pa_cons pe_int (pa_cons (peCval K (pe_glob (v := .ref T.c_Table) rfl T.g_Table rfl)) pa_nil)))))) (pss_one ps_never) pss_nil)), ?_⟩
  refine enterD h fun M ds pre _ => ?_
  obtain ⟨P, rfl, h1, h2⟩ := pre
  obtain ⟨u, cv⟩ := T.cv_Table_MOST_PARTS
  refine do_if (et_not (et_test (ev_num ?_)))
  refine ea_cons (ev_var rfl (ea_cons (ev_int (ea_cons (ev_cval T.cr_Table cv (ea_nil ⟨_, _, _, rfl, rfl, _, rfl, ?_⟩) (ev_adr rfl))))))
  rw [isNum_yes h1 h2]
  exact ⟨(fun h => nomatch h), fun _ => do_next rfl⟩
def prePart : List D → Prop := fun ds => ∃ i P : Int, ds = [.int i, .int P] ∧ 0 ≤ i ∧ i < P
theorem ok__check_part {P : Program} {w : World} {K : PySem.W.Frag} {mg : Str → Option Value} {base : Heap} (T : Txt K mg) : FnOk P w K mg base CX0 4 T.f__check_part T.fd__check_part ["part", "parts"] (spD K prePart postNon) := by
  refine T.F__check_part.ok sc__check_part (spD_len fun ds ⟨i, P, e, _⟩ => by rw [e]; rfl) (fun cdv A outer s H vs Q E hr h => ?_)
  refine ⟨_, (pss_one (ps_if (pt_not (pt_val (pe_call (ok_is_number T) (hr.mono (by decide)) rfl T.g_is_number T.k_is_number T.bd_is_number .nil pass0 (pa_cons (pv 0) (pa_cons pe_int (pa_cons (pe_op op_sub (pv 1) pe_int) pa_nil)))))) (pss_one ps_never) pss_nil)), ?_⟩
  refine enterD h fun M ds pre _ => ?_
  obtain ⟨i, P, rfl, h1, h2⟩ := pre
  refine do_if (et_not (et_test (ev_num ?_)))
  repeat walk_at "ev"
  refine ⟨_, _, _, rfl, rfl, _, rfl, ?_⟩
  rw [isNum_yes h1 (by omega)]
  exact ⟨(fun h => nomatch h), fun _ => do_next rfl⟩
def preAre : List D → Prop := fun ds => ∃ (ps : List Int) (P : Int), ds = [.tup (ps.map .int), .int P] ∧ ps ≠ [] ∧ 1 ≤ P ∧ P ≤ 4 ∧ Asc 0 P ps
def postYes : List D → D → Prop := fun _ d => d = .bl true
theorem asc_step {P : Int} : ∀ {ps : List Int} {lo : Int} {i : Nat} {x : Int}, Asc lo P ps → ps[i]? = some x → (match i with | 0 => lo | j + 1 => (ps.getD j 0) + 1) ≤ x ∧ x ≤ P - 1
  | [], _, _, _, _, h => by simp at h
  | p :: ps, lo, 0, x, ⟨h1, h2, h3⟩, h => by
    have : p = x := by simpa using h
    subst this
    exact ⟨h1, h2⟩
  | p :: ps, lo, 1, x, ⟨h1, h2, h3⟩, h => by
    have := asc_step (i := 0) h3 (by simpa using h)
    simpa using this
  | p :: ps, lo, i + 2, x, ⟨h1, h2, h3⟩, h => by
    have := asc_step (i := i + 1) h3 (by simpa using h)
    simpa using this
theorem ok__are_parts {P : Program} {w : World} {K : PySem.W.Frag} {mg : Str → Option Value} {base : Heap} (T : Txt K mg) : FnOk P w K mg base CX0 4 T.f__are_parts T.fd__are_parts ["value", "parts"] (spD K preAre postYes) := by
  refine T.F__are_parts.ok sc__are_parts (spD_len fun ds ⟨i, P, e, _⟩ => by rw [e]; rfl) (fun cdv A outer s H vs Q E hr h => ?_)
  refine ⟨_, (pss_cons (ps_if (PW.pt (pw_or (pt_not (pt_val (pe_callB (callIsi K) (by rfl) T.b_isinstance (by decide +kernel) (pa_cons (pv 0) (pa_cons (pe_bltn (v := .ty "tuple") (by rfl) T.b_tuple (by decide +kernel) rfl) pa_nil))))) (pw_or1 (pt_cmpR op_eq (pe_callB (callLen K) (by rfl) T.b_len (by decide +kernel) (pa_cons (pv 0) pa_nil)) pe_int (nomark _))))) (pss_one (ps_ret pe_bl)) pss_nil)
    (pss_cons (ps_set (i := 2) sc__are_parts.nd rfl (Or.inl rfl) pe_int)
    (pss_cons (ps_for PassesOwn.never rfl (piT K (pv 0)) (pg_name (i := 3) sc__are_parts.nd rfl (Or.inl rfl))
      (pss_cons (ps_if (pt_not (pt_val (pe_call (ok_is_number T) (hr.mono (by decide)) rfl T.g_is_number T.k_is_number T.bd_is_number .nil pass0 (pa_cons (pv 3) (pa_cons (pv 2) (pa_cons (pe_op op_sub (pv 1) pe_int) pa_nil)))))) (pss_one (ps_ret pe_bl)) pss_nil)
      (pss_one (ps_set (i := 2) sc__are_parts.nd rfl (Or.inl rfl) (pe_op op_add (pv 3) pe_int)))))
    (pss_one (ps_ret pe_bl))))), ?_⟩
  refine enterD h fun M ds pre _ => ?_
  obtain ⟨ps, P, rfl, hne, hP, hP4, as⟩ := pre
  have hlen := as.len (by omega)
  have hpos : 0 < ps.length := List.length_pos_iff.mpr hne
  refine do_seq (do_if (et_or (et_not (et_test (ev_cb (ea_cons (ev_var rfl (ea_cons (ev_ty (ea_nil (cd_isi (a := "tuple") rfl (by decide) ⟨_, rfl, fun _ => ?_, fun h => nomatch h⟩)))))))))))
  refine et_test (ev_op (ev_cb (ea_cons (ev_var rfl (ea_nil (cd_lenK (k := ps.length) (by simp [lenD]) (by omega) ?_))))))
  refine ev_int (od_eq_int ⟨_, rfl, fun h => ?_, fun _ => ?_⟩)
  · have := of_decide_eq_true h
    omega
  refine do_next (do_seq (do_set (ev_int ?_)))
  refine do_seq ?_
  refine do_for (js := [3]) (PX := fun l => l = ps.map .int) (it_tup (ev_var rfl ⟨_, rfl, rfl⟩)) (fun l i δ => ∃ y z, δ = [.dat (.tup (ps.map .int)), .dat (.int P), .dat (.int y), z] ∧ y = (match i with | 0 => 0 | j + 1 => (ps.getD j 0) + 1)) (fun l e => ⟨0, .un, rfl, rfl⟩) ?_ ?_
  · rintro l i d δ' rfl hi ⟨y, z, rfl, hy⟩
    rw [List.getElem?_map] at hi
    cases hx : ps[i]? with
    | none => rw [hx] at hi; cases hi
    | some x =>
      rw [hx] at hi
      obtain rfl : D.int x = d := Option.some.inj hi
      obtain ⟨h1, h2⟩ := asc_step as hx
      refine tg_name (do_seq (do_if (et_not (et_test (ev_num ?_)))))
      repeat walk_at "ev"
      refine ⟨_, _, _, rfl, rfl, _, rfl, ?_⟩
      rw [isNum_yes (by rw [hy]; exact h1) h2]
      refine ⟨(fun h => nomatch h), fun _ => do_next ?_⟩
      repeat walk_at "ev"
      exact ⟨x + 1, .dat (.int x), rfl, by simp [List.getD, hx]⟩
  · rintro l δ' rfl ⟨y, z, rfl, hy⟩
    exact do_ret (ev_bl rfl)
def preRow : List D → Prop := fun ds => ∃ (r : Row) (P : Int), ds = [rowD r, .int P] ∧ 1 ≤ P ∧ P ≤ 4 ∧ GoodRow P r
theorem plD_ints (ps : List Int) : plL (ps.map .int) = true := by
  induction ps with
  | nil => simp [plL]
  | cons p ps ih => simp [plL, plD, ih]
theorem ok__is_row {P : Program} {w : World} {K : PySem.W.Frag} {mg : Str → Option Value} {base : Heap} (T : Txt K mg) : FnOk P w K mg base CX0 6 T.f__is_row T.fd__is_row ["value", "parts"] (spD K preRow postYes) := by
  refine T.F__is_row.ok sc__is_row (spD_len fun ds ⟨i, P, e, _⟩ => by rw [e]; rfl) (fun cdv A outer s H vs Q E hr h => ?_)
  refine ⟨_, (pss_cons (ps_if (PW.pt (pw_or (pt_not (pt_val (pe_callB (callIsi K) (by rfl) T.b_isinstance (by decide +kernel) (pa_cons (pv 0) (pa_cons (pe_bltn (v := .ty "tuple") (by rfl) T.b_tuple (by decide +kernel) rfl) pa_nil))))) (pw_or1 (pt_cmpR op_ne (pe_callB (callLen K) (by rfl) T.b_len (by decide +kernel) (pa_cons (pv 0) pa_nil)) pe_int (nomark _))))) (pss_one (ps_ret pe_bl)) pss_nil)
    (pss_cons (ps_asg (pv 0) (pgTup K (n := 3) rfl (pgs_cons (pg_name (i := 2) sc__is_row.nd rfl (Or.inl rfl)) (pgs_cons (pg_name (i := 3) sc__is_row.nd rfl (Or.inl rfl)) (pgs_cons (pg_name (i := 4) sc__is_row.nd rfl (Or.inl rfl)) pgs_nil)))))
    (pss_one (ps_ret (pe_and (pe_call (ok_is_number T) (hr.mono (by decide)) rfl T.g_is_number T.k_is_number T.bd_is_number .nil pass0 (pa_cons (pv 2) (pa_cons (pe_un un_neg (pe_glob (v := .int 1000000000) rfl T.g__MOST_KEY ⟨_, rfl⟩)) (pa_cons (pe_glob (v := .int 1000000000) rfl T.g__MOST_KEY ⟨_, rfl⟩) pa_nil)))) (pe_and (pe_call (ok_is_number T) (hr.mono (by decide)) rfl T.g_is_number T.k_is_number T.bd_is_number .nil pass0 (pa_cons (pv 3) (pa_cons pe_int (pa_cons (pe_glob (v := .int 1000000000) rfl T.g_MOST_NUMBER_tables ⟨_, rfl⟩) pa_nil)))) (pe_one (pe_call (ok__are_parts T) (hr.mono (by decide)) rfl T.g__are_parts T.k__are_parts T.bd__are_parts .nil pass0 (pa_cons (pv 4) (pa_cons (pv 1) pa_nil)))))))))), ?_⟩
  refine enterD h fun M ds pre _ => ?_
  obtain ⟨⟨k, n, ps⟩, P, rfl, hP, hP4, g⟩ := pre
  refine do_seq (do_if (et_or (et_not (et_test (ev_cb (ea_cons (ev_var rfl (ea_cons (ev_ty (ea_nil (cd_isi (a := "tuple") rfl (by decide) ⟨_, rfl, fun _ => ?_, fun h => nomatch h⟩)))))))))))
  refine et_test (ev_op (ev_cb (ea_cons (ev_var rfl (ea_nil (cd_lenK (k := 3) rfl (by decide) ?_))))))
  refine ev_int (od_ne_int ⟨_, rfl, fun h => ?_, fun _ => ?_⟩)
  · simp at h
  refine do_next (do_seq (do_asg (js := [2, 3, 4]) (ev_var rfl (tg_tup rfl ?_))))
  refine tgs_cons (js := [2]) (ks := [3, 4]) (tg_name (tgs_cons (js := [3]) (ks := [4]) (tg_name (tgs_cons (js := [4]) (ks := []) (tg_name (tgs_nil ?_))))))
  have nega : ∀ {P : D → Prop}, P (.int (-1000000000)) → UnD K (rU fun i => .int (-i)) (.int 1000000000) P := fun p M H v Q al r1 q => by
    cases r1
    exact ⟨_, rfl, q _ _ H p (Same.refl H) (.int _)⟩
  refine do_ret (ev_and (ev_num ?_))
  refine ea_cons (ev_var rfl (ea_cons (ev_un (ev_int (nega ?_)))))
  refine ea_cons (ev_int (ea_nil ⟨_, _, _, rfl, rfl, _, rfl, fun _ => ?_, fun h => ?_⟩))
  · refine ev_and (ev_num ?_)
    refine ea_cons (ev_var rfl (ea_cons (ev_int (ea_cons (ev_int (ea_nil ⟨_, _, _, rfl, rfl, _, rfl, fun _ => ?_, fun h => ?_⟩))))))
    · refine ev_call (ea_cons (ev_var rfl (ea_cons (ev_var rfl (ea_nil ⟨⟨ps, P, rfl, g.ne, hP, hP4, g.as⟩, fun d hd => hd⟩)))))
    · rw [isNum_yes g.n0 g.n1] at h
      cases h
  · rw [isNum_yes g.k0 g.k1] at h
    cases h

end Pf

namespace Pf
open PySem L2 RZ
local macro_rules | `(tactic| walk_at "ev") => `(tactic| first
  | ((with_reducible refine' ev_var ?h ?_); (case h => rfl))
  | with_reducible refine ev_int ?_
  | with_reducible refine ev_bl ?_
  | with_reducible refine ev_str ?_
  | with_reducible refine ev_non ?_
  | with_reducible refine ev_ty ?_
  | with_reducible refine ev_op ?_
  | with_reducible refine ev_un ?_
  | with_reducible refine ev_chain ?_
  | with_reducible refine ev_if ?_
  | with_reducible refine ev_and ?_
  | with_reducible refine ev_or ?_
  | with_reducible refine ev_not ?_
  | with_reducible refine ev_lst ?_
  | with_reducible refine ev_tup ?_
  | with_reducible refine ea_nil ?_
  | with_reducible refine ea_cons ?_
  | with_reducible refine ev_cb ?_
  | with_reducible refine et_test ?_
  | with_reducible refine et_B ?_
  | with_reducible refine et_and ?_
  | with_reducible refine et_or ?_
  | with_reducible refine et_not ?_
  | with_reducible refine et_yes ?_
  | with_reducible refine eo_none ?_
  | with_reducible refine eo_some ?_
  | with_reducible refine ev_slS ?_
  | with_reducible refine od_int ?_
  | with_reducible refine od_bl ?_
  | with_reducible refine od_eq_int ?_
  | with_reducible refine od_ne_int ?_
  | with_reducible refine od_eq_bl ?_
  | with_reducible refine od_ne_bl ?_
  | with_reducible refine od_eq_str ?_
  | with_reducible refine od_ne_str ?_
  | with_reducible refine od_leS ?_
  | with_reducible refine ud_isN ?_
  | with_reducible refine ud_notN ?_
  | with_reducible refine do_seq ?_
  | with_reducible refine do_set ?_
  | with_reducible refine do_ret ?_
  | with_reducible refine do_retN ?_
  | with_reducible refine do_if ?_
  | with_reducible refine do_next ?_
  | with_reducible refine tg_name ?_
  | with_reducible refine tgs_nil ?_
  | with_reducible refine tgs_cons ?_)
/-! ### the dict of the rows, the table -/
def kvR (r : Row) : Key × D := (.inl r.2.1, rowD r)
theorem valD_rows {n : Int} : ∀ {rs : List Row}, n ∉ rs.map (fun r => r.2.1) → valD (rs.map kvR) (.inl n) = none
  | [], _ => rfl
  | r :: rs, h => by
    rw [List.map_cons, List.mem_cons, not_or] at h
    have h1 : ¬ (Sum.inl r.2.1 : Key) = .inl n := fun e => h.1 (by injection e with e; exact e.symm)
    have e : valD ((kvR r) :: rs.map kvR) (.inl n) = valD (rs.map kvR) (.inl n) := by
      unfold valD
      rw [List.find?_cons]
      have : decide ((kvR r).1 = (Sum.inl n : Key)) = false := decide_eq_false h1
      rw [this]
    rw [List.map_cons, e]
    exact valD_rows h.2
def preBy : List D → Prop := fun es => ∃ rs : List Row, es = rowsD rs ∧ (rs.map fun r => r.2.1).Nodup ∧ rs.length ≤ 300
def postBy : List D → D → Prop := fun es d => ∃ rs : List Row, es = rowsD rs ∧ d = .dic (rs.map kvR)
theorem rowsD_get {rs : List Row} {i : Nat} {d : D} (h : (rowsD rs)[i]? = some d) : ∃ r, rs[i]? = some r ∧ d = rowD r := by
  unfold rowsD at h
  rw [List.getElem?_map] at h
  cases e : rs[i]? with
  | none => rw [e] at h; cases h
  | some r =>
    rw [e] at h
    exact ⟨r, rfl, (Option.some.inj h).symm⟩
theorem take_nd {rs : List Row} {i : Nat} {r : Row} (nd : (rs.map fun r => r.2.1).Nodup) (h : rs[i]? = some r) : r.2.1 ∉ (rs.take i).map fun r => r.2.1 := fun hm => by
  rw [← List.take_append_drop i rs, List.map_append, List.nodup_append] at nd
  have hd : r ∈ rs.drop i := List.mem_of_getElem? (i := 0) (by rw [List.getElem?_drop]; exact h)
  exact nd.2.2 _ hm _ (List.mem_map_of_mem hd) rfl
theorem ok__rows_by_number {P : Program} {w : World} {K : PySem.W.Frag} {mg : Str → Option Value} {base : Heap} (T : Txt K mg) : FnOk P w K mg base CX0 2 T.f__rows_by_number T.fd__rows_by_number ["rows"] (spS K preBy postBy) := by
  refine T.F__rows_by_number.ok sc__rows_by_number spS_len (fun cdv A outer s H vs Q E hr h => ?_)
  refine ⟨_, (pss_cons (ps_set (i := 1) sc__rows_by_number.nd rfl (Or.inl rfl) pe_dnewK)
    (pss_cons (ps_for PassesOwn.never rfl (piS K (pv 0)) (pg_name (i := 2) sc__rows_by_number.nd rfl (Or.inl rfl))
      (pss_cons (ps_if (pt_cmp (pc_din (hu_of hr) (pe_ix (ixT K) (pv 2) pe_int (fun _ _ => rfl)) (pv 1))) (pss_one ps_never) pss_nil)
      (pss_one (ps_dput (hu_of hr) (pv 1) (pe_ix (ixT K) (pv 2) pe_int (fun _ _ => rfl)) (pv 2) rfl))))
    (pss_one (ps_ret (pv 1))))), ?_⟩
  refine enterS h fun M es pre => ?_
  obtain ⟨rs, rfl, nd, hz⟩ := pre
  refine do_seq (do_ownDic fun p => ?_)
  refine do_seq ?_
  refine do_for (js := [2]) (PX := fun l => l = rowsD rs) (it_sq rfl rfl) (fun l i δ => ∃ z, δ = [.sq (rowsD rs), .own p (.dic ((rs.take i).map kvR)), z]) (fun l e => ⟨.un, rfl⟩) ?_ ?_
  · rintro l i d δ' rfl hi ⟨z, rfl⟩
    obtain ⟨⟨k, n, ps⟩, hr', rfl⟩ := rowsD_get hi
    have hno := take_nd nd hr'
    refine tg_name (do_seq (do_if (et_test (ev_dinO rfl ?_))))
    refine ev_op (ev_var rfl (ev_int (od_ixT (d := .int n) rfl ⟨.inl n, rfl, _, rfl, ?_⟩)))
    rw [valD_rows hno]
    refine ⟨(fun h => nomatch h), fun _ => do_next ?_⟩
    have hlt := (List.getElem?_eq_some_iff.mp hr').1
    refine do_dput rfl (by simp; omega) (ev_var rfl (ev_op (ev_var rfl (ev_int (od_ixT (d := .int n) rfl ⟨.inl n, rfl, .dat (rowD (k, n, ps)), ?_⟩)))))
    rw [putD_new (valD_rows hno)]
    have e : List.map kvR (List.take i rs) ++ [(Sum.inl n, rowD (k, n, ps))] = List.map kvR (List.take (i + 1) rs) := by
      rw [List.take_succ, hr']
      simp [kvR]
    rw [e]
    rfl
  · rintro l δ' rfl ⟨z, rfl⟩
    refine do_freeze (i := 1) rfl (do_ret (ev_var rfl ⟨rs, rfl, ?_⟩))
    simp [rowsD]
    rfl
theorem pyd_row (r : Row) : pyd (rowD r) = .tuple [.int r.1, .int r.2.1, .tuple (r.2.2.map PyData.int)] := by
  have e : pydL (r.2.2.map D.int) = r.2.2.map PyData.int := by
    rw [pydL_map, List.map_map]
    refine List.map_congr_left fun x _ => ?_
    simp [pyd]
  simp only [rowD, pyd, pydL, e]
theorem sortOk_rows (rs : List Row) : SortOk (rowsD rs) := by
  have e : (rowsD rs).map pyd = rs.map fun r => PyData.tuple [.int r.1, .int r.2.1, .tuple (r.2.2.map PyData.int)] := by
    unfold rowsD
    rw [List.map_map]
    exact List.map_congr_left fun r _ => pyd_row r
  refine ⟨?_, ?_, ?_, fun d hd => ?_⟩
  · induction rs with
    | nil => simp [rowsD, plainL]
    | cons r rs ih =>
      have hp : ∀ ps : List Int, plainL (ps.map D.int) = true := fun ps => by
        induction ps with
        | nil => simp [plainL]
        | cons p ps ih => simp [plainL, plainD, ih]
      have ih' := ih (by
        unfold rowsD
        rw [List.map_map]
        exact List.map_congr_left fun r _ => pyd_row r)
      unfold rowsD at ih' ⊢
      simp only [List.map_cons, plainL, rowD, plainD, hp, Bool.and_true, Bool.true_and]
      exact ih'
  · rw [e]
    exact PySem.W.AllAlike.of fun r r' => by simp [PySem.W.alike, PySem.W.alikeAll, PySem.W.alike_ints]
  · rw [e]
    exact PySem.W.Sortable.tuples fun r => ⟨_, _, rfl⟩
  · obtain ⟨r, _, rfl⟩ := List.mem_map.mp hd
    rw [pyd_row]
    simp only [PyData.depth, PyData.depthAll, PySem.W.depth_ints]
    decide
/-- the rows in order -/
def sortR (rs : List Row) : List Row := rs.mergeSort (PySem.W.dataLe false fun r => pyd (rowD r))
theorem sortD_rows (rs : List Row) : sortD (rowsD rs) = rowsD (sortR rs) := by
  unfold sortD rowsD sortR
  exact (PySem.W.sort_maps rowD fun a _ b _ => rfl).symm
theorem sortR_perm (rs : List Row) : (sortR rs).Perm rs := List.mergeSort_perm _ _
theorem GoodRows.sort {P : Int} {rs : List Row} (g : GoodRows P rs) : GoodRows P (sortR rs) :=
  ⟨fun r hr => g.rw r ((sortR_perm rs).mem_iff.mp hr), ((sortR_perm rs).map _).nodup_iff.mpr g.nd, by rw [(sortR_perm rs).length_eq]; exact g.sz⟩
def tabF (P : Int) (ss rs : List Row) : List (Str × D) := [("_parts", .int P), ("_rows", .lst (rowsD ss)), ("_by_number", .dic (rs.map kvR))]
def preTab : List D → List D → Prop := fun ds es => ∃ (P : Int) (rs : List Row), ds = [.int P] ∧ es = rowsD rs ∧ 1 ≤ P ∧ P ≤ 4 ∧ GoodRows P rs
def postTab : List D → List D → List (Str × D) → Prop := fun ds es fs => ∃ (P : Int) (rs : List Row), ds = [.int P] ∧ es = rowsD rs ∧ fs = tabF P (sortR rs) rs
theorem tab_put (a b c : D) : putFD "_by_number" c (putFD "_rows" b (putFD "_parts" a [])) = ([("_parts", a), ("_rows", b), ("_by_number", c)] : List (Str × D)) := by
  have h1 : ¬ ("_parts" : Str) = "_rows" := by decide
  have h2 : ¬ ("_parts" : Str) = "_by_number" := by decide
  have h3 : ¬ ("_rows" : Str) = "_by_number" := by decide
  simp [putFD, h1, h2, h3]
theorem ok_Table_init {P : Program} {w : World} {K : PySem.W.Frag} {mg : Str → Option Value} {base : Heap} (T : Txt K mg) : FnOk P w K mg base CX0 8 T.f_Table_init T.fd_Table_init ["self", "parts", "rows"] (spIS K T.c_Table preTab postTab) := by
  refine T.F_Table_init.ok sc_Table_init (spIS_len fun ds es ⟨P, rs, e, _⟩ => by rw [e]; rfl) (fun cdv A outer s H vs Q E hr h => ?_)
  refine ⟨_, (pss_cons (ps_expr (pe_call (ok__check_parts T) (hr.mono (by decide)) rfl T.g__check_parts T.k__check_parts T.bd__check_parts .nil pass0 (pa_cons (pv 1) pa_nil)))
    (pss_cons (ps_for PassesOwn.never rfl (pi_enumA K (by rfl) T.b_enumerate (pa_cons (pv 2) pa_nil)) (pgTup K (n := 2) rfl (pgs_cons (pg_name (i := 3) sc_Table_init.nd rfl (Or.inl rfl)) (pgs_cons (pg_name (i := 4) sc_Table_init.nd rfl (Or.inl rfl)) pgs_nil)))
      (pss_one (ps_if (pt_not (pt_val (pe_call (ok__is_row T) (hr.mono (by decide)) rfl T.g__is_row T.k__is_row T.bd__is_row .nil pass0 (pa_cons (pv 4) (pa_cons (pv 1) pa_nil))))) (pss_one ps_never) pss_nil)))
    (pss_cons (ps_set (i := 5) sc_Table_init.nd rfl (Or.inl rfl) (pe_call (ok__rows_by_number T) (hr.mono (by decide)) rfl T.g__rows_by_number T.k__rows_by_number T.bd__rows_by_number .nil pass0 (pa_cons (pv 2) pa_nil)))
    (pss_cons (ps_if (pt_cmpR op_gt (pe_callB (callLen K) (by rfl) T.b_len (by decide +kernel) (pa_cons (pv 2) pa_nil)) (peCval K (pe_glob (v := .ref T.c_Table) rfl T.g_Table rfl)) (nomark _)) (pss_one ps_never) pss_nil)
    (pss_cons (ps_fld (pv 0) (pv 1) rfl)
    (pss_cons (ps_fld (pv 0) (pe_callB (cr_sortA K hr.units) (by rfl) T.b_sorted (by decide +kernel) (pa_cons (pv 2) pa_nil)) rfl)
    (pss_one (ps_fld (pv 0) (pv 5) rfl)))))))), ?_⟩
  refine enterIS h fun M H1 x ds es pre _ => ?_
  obtain ⟨P, rs, rfl, rfl, hP, hP4, g⟩ := pre
  have g' := g.sz
  obtain ⟨u, cv⟩ := T.cv_Table_MOST_ROWS
  refine do_seq (do_drop (ev_call (ea_cons (ev_var rfl (ea_nil ⟨⟨P, rfl, hP, hP4⟩, fun _ _ => ?_⟩)))))
  refine do_seq ?_
  refine do_for (js := [3, 4]) (PX := fun l => l = numbered (rowsD rs)) (it_enumSq rfl rfl) (fun l i δ => ∃ a b, δ = [.own x (.ins T.c_Table []), .dat (.int P), .sq (rowsD rs), a, b, .un]) (fun l e => ⟨.un, .un, rfl⟩) ?_ ?_
  · rintro l i d δ' rfl hi ⟨a, b, rfl⟩
    have hlt : i < (rowsD rs).length := by
      have := (List.getElem?_eq_some_iff.mp hi).1
      rwa [numbered_len] at this
    obtain ⟨r, hr', hrd⟩ := rowsD_get (List.getElem?_eq_getElem hlt)
    have he := numbered_get (List.getElem?_eq_getElem hlt)
    rw [hi] at he
    obtain rfl := Option.some.inj he
    rw [hrd]
    refine tg_tup rfl (tgs_cons (js := [3]) (ks := [4]) (tg_name (tgs_cons (js := [4]) (ks := []) (tg_name (tgs_nil ?_)))))
    refine do_if (et_not (et_test (ev_call (ea_cons (ev_var rfl (ea_cons (ev_var rfl (ea_nil ⟨⟨r, P, rfl, hP, hP4, g.rw r (List.mem_of_getElem? hr')⟩, fun d hd => ?_⟩))))))))
    subst hd
    exact ⟨_, rfl, (fun h => nomatch h), fun _ => do_next ⟨_, _, rfl⟩⟩
  · rintro l δ' rfl ⟨a, b, rfl⟩
    refine do_seq (do_set (ev_callS rfl ⟨rs, rfl, g.nd, g.sz⟩ fun d hd => ?_))
    obtain ⟨rs', hrs, rfl⟩ := hd
    obtain rfl : rs = rs' := by
      have inj : ∀ {xs ys : List Row}, rowsD xs = rowsD ys → xs = ys := by
        intro xs
        induction xs with
        | nil =>
          intro ys h
          cases ys with
          | nil => rfl
          | cons y ys => cases h
        | cons x xs ih =>
          intro ys h
          cases ys with
          | nil => cases h
          | cons y ys =>
            simp only [rowsD, List.map_cons, List.cons.injEq] at h
            obtain ⟨h1, h2⟩ := h
            have h2' := ih (ys := ys) h2
            have ex : x = y := by
              obtain ⟨a, b, c⟩ := x
              obtain ⟨a', b', c'⟩ := y
              simp only [rowD, D.tup.injEq, List.cons.injEq, D.int.injEq, and_true] at h1
              obtain ⟨rfl, rfl, h3⟩ := h1
              have : c = c' := by
                have hm := congrArg (List.map fun d => match d with | D.int i => i | _ => 0) h3
                simpa [List.map_map, Function.comp_def] using hm
              rw [this]
            rw [ex, h2']
      exact inj hrs
    refine do_seq (do_if (et_test (ev_op (ev_lenSq rfl (ev_cval T.cr_Table cv (od_bl ⟨_, rfl, fun h => ?_, fun _ => do_next ?_⟩) (ev_adr rfl))))))
    · have := of_decide_eq_true h
      simp [rowsD] at this
      omega
    refine do_seq (do_fset rfl T.cf_Table.cl T.na_Table_parts (by decide) (ev_var rfl ?_))
    refine do_seq (do_fset rfl T.cf_Table.cl T.na_Table_rows (by simp [putFD]) (EvN.ev (en_sortedSq rfl (sortOk_rows rs) ?_)))
    refine do_fset rfl T.cf_Table.cl T.na_Table_by_number (by rw [sortD_rows]; simp [putFD]; split <;> simp) (ev_var rfl ?_)
    refine ⟨_, rfl, P, rs, rfl, rfl, ?_⟩
    rw [tab_put, sortD_rows]
    rfl

end Pf

namespace Pf
open PySem L2 RZ
local macro_rules | `(tactic| walk_at "ev") => `(tactic| first
  | ((with_reducible refine' ev_var ?h ?_); (case h => rfl))
  | with_reducible refine ev_int ?_
  | with_reducible refine ev_bl ?_
  | with_reducible refine ev_str ?_
  | with_reducible refine ev_non ?_
  | with_reducible refine ev_ty ?_
  | with_reducible refine ev_op ?_
  | with_reducible refine ev_un ?_
  | with_reducible refine ev_chain ?_
  | with_reducible refine ev_if ?_
  | with_reducible refine ev_and ?_
  | with_reducible refine ev_or ?_
  | with_reducible refine ev_not ?_
  | with_reducible refine ev_lst ?_
  | with_reducible refine ev_tup ?_
  | with_reducible refine ea_nil ?_
  | with_reducible refine ea_cons ?_
  | with_reducible refine ev_cb ?_
  | with_reducible refine et_test ?_
  | with_reducible refine et_B ?_
  | with_reducible refine et_and ?_
  | with_reducible refine et_or ?_
  | with_reducible refine et_not ?_
  | with_reducible refine et_yes ?_
  | with_reducible refine eo_none ?_
  | with_reducible refine eo_some ?_
  | with_reducible refine ev_slS ?_
  | with_reducible refine od_int ?_
  | with_reducible refine od_bl ?_
  | with_reducible refine od_eq_int ?_
  | with_reducible refine od_ne_int ?_
  | with_reducible refine od_eq_bl ?_
  | with_reducible refine od_ne_bl ?_
  | with_reducible refine od_eq_str ?_
  | with_reducible refine od_ne_str ?_
  | with_reducible refine od_leS ?_
  | with_reducible refine ud_isN ?_
  | with_reducible refine ud_notN ?_
  | with_reducible refine do_seq ?_
  | with_reducible refine do_set ?_
  | with_reducible refine do_ret ?_
  | with_reducible refine do_retN ?_
  | with_reducible refine do_if ?_
  | with_reducible refine do_next ?_
  | with_reducible refine tg_name ?_
  | with_reducible refine tgs_nil ?_
  | with_reducible refine tgs_cons ?_)
/-! ### what a table is asked -/
def preSelf (c : Addr) : List D → Prop := fun ds => ∃ (P : Int) (ss rs : List Row), ds = [.ins c (tabF P ss rs)] ∧ 1 ≤ P ∧ P ≤ 4 ∧ GoodRows P ss
theorem tab_parts {P : Int} {ss rs : List Row} : List.lookup ("_parts" : Str) (tabF P ss rs) = some (D.int P) := by
  unfold tabF
  rw [List.lookup_cons]
  have h : (("_parts" : Str) == "_parts") = true := by decide
  rw [h]
theorem tab_rows {P : Int} {ss rs : List Row} : List.lookup ("_rows" : Str) (tabF P ss rs) = some (D.lst (rowsD ss)) := by
  unfold tabF
  have h1 : (("_rows" : Str) == "_parts") = false := by decide
  have h2 : (("_rows" : Str) == "_rows") = true := by decide
  rw [List.lookup_cons, h1]
  simp only
  rw [List.lookup_cons, h2]
def postParts (c : Addr) : List D → D → Prop := fun ds d => ∃ (P : Int) (ss rs : List Row), ds = [.ins c (tabF P ss rs)] ∧ d = .int P
theorem ok_Table_parts {P : Program} {w : World} {K : PySem.W.Frag} {mg : Str → Option Value} {base : Heap} (T : Txt K mg) : FnOk P w K mg base CX0 2 T.f_Table_parts T.fd_Table_parts ["self"] (spD K (preSelf T.c_Table) (postParts T.c_Table)) := by
  refine T.F_Table_parts.ok sc_Table_parts (spD_len fun ds ⟨P, ss, rs, e, _⟩ => by rw [e]; rfl) (fun cdv A outer s H vs Q E hr h => ?_)
  refine ⟨_, (pss_one (ps_ret (peFld K (pv 0) rfl))), ?_⟩
  refine enterD h fun M ds pre _ => ?_
  obtain ⟨P, ss, rs, rfl, _, _, _⟩ := pre
  exact do_ret (ev_fld T.cf_Table.cl T.na_Table_parts (ev_var rfl ⟨_, _, rfl, tab_parts, P, ss, rs, rfl, rfl⟩))
def isPlain (ss : List Row) : Bool := ss.all fun r => decide (r.2.2.length = 1)
def postPlain (c : Addr) : List D → D → Prop := fun ds d => ∃ (P : Int) (ss rs : List Row), ds = [.ins c (tabF P ss rs)] ∧ d = .bl (isPlain ss)
theorem take_snoc {α β : Type} {xs : List α} {i : Nat} {x : α} (f : α → β) (h : xs[i]? = some x) : (xs.take i).map f ++ [f x] = (xs.take (i + 1)).map f := by
  rw [List.take_succ, h]
  simp
theorem rowsD_len {ss : List Row} : (rowsD ss).length = ss.length := by simp [rowsD]
def postRowsT (c : Addr) : List D → List D → Prop := fun ds es => ∃ (P : Int) (ss rs : List Row), ds = [.ins c (tabF P ss rs)] ∧ es = rowsD ss
theorem ok_Table_rows {P : Program} {w : World} {K : PySem.W.Frag} {mg : Str → Option Value} {base : Heap} (T : Txt K mg) : FnOk P w K mg base CX0 2 T.f_Table_rows T.fd_Table_rows ["self"] (spN K (preSelf T.c_Table) (postRowsT T.c_Table)) := by
  refine T.F_Table_rows.ok sc_Table_rows (spN_len fun ds ⟨P, ss, rs, e, _⟩ => by rw [e]; rfl) (fun cdv A outer s H vs Q E hr h => ?_)
  refine ⟨_, (pss_one (ps_ret (pe_callTy (callList K) (by rfl) T.b_list (by decide +kernel) (pa_cons (peFld K (pv 0) rfl) pa_nil)))), ?_⟩
  refine enterN1 h fun M ds pre _ => ?_
  obtain ⟨P, ss, rs, rfl, h1, h4, g⟩ := pre
  exact en_listOf (ev_fld T.cf_Table.cl T.na_Table_rows (ev_var rfl ⟨_, _, rfl, tab_rows, _, .inl rfl, P, ss, rs, rfl, rfl⟩))
def placeD (r : Row) : D := .tup [.int r.1, .int r.2.1]
def postPlaces (c : Addr) : List D → List D → Prop := fun ds es => ∃ (P : Int) (ss rs : List Row), ds = [.ins c (tabF P ss rs)] ∧ es = ss.map placeD
theorem ok_Table_places {P : Program} {w : World} {K : PySem.W.Frag} {mg : Str → Option Value} {base : Heap} (T : Txt K mg) : FnOk P w K mg base CX0 2 T.f_Table_places T.fd_Table_places ["self"] (spN K (preSelf T.c_Table) (postPlaces T.c_Table)) := by
  refine T.F_Table_places.ok sc_Table_places (spN_len fun ds ⟨P, ss, rs, e, _⟩ => by rw [e]; rfl) (fun cdv A outer s H vs Q E hr h => ?_)
  refine ⟨_, (pss_one (ps_ret (pe_lc (own := [("row", 1)]) rfl sc_Table_places.nd (piL K (peFld K (pv 0) rfl)) (blkOk_by (N := N_Table_places) (sc := defScope s_Table_places) (by decide +kernel)) (fun _ _ _ _ _ => (pg_name (i := 1) sc_Table_places.nd rfl (Or.inl rfl))) (fun _ _ _ _ _ => pts_nil) (fun _ _ _ _ _ => (pe_tup (pa_cons (pe_ix (ixT K) (pv 1) pe_int (fun _ _ => rfl)) (pa_cons (pe_ix (ixT K) (pv 1) pe_int (fun _ _ => rfl)) pa_nil))))))), ?_⟩
  refine enterN1 h fun M ds pre _ => ?_
  obtain ⟨P, ss, rs, rfl, h1, h4, g⟩ := pre
  have hz := g.sz
  refine en_lc (js := [1]) (PX := fun l => l = rowsD ss) (it_list (ev_fld T.cf_Table.cl T.na_Table_rows (ev_var rfl ⟨_, _, rfl, tab_rows, _, rfl, rfl⟩))) (fun l e => by rw [e, rowsD_len]; omega) (by decide) (fun l i acc => acc = (ss.take i).map placeD) (fun l e => rfl) ?_ ?_
  · rintro l i d acc rfl hi rfl
    obtain ⟨r, hr', rfl⟩ := rowsD_get hi
    refine tg_name (et_yes ⟨fun _ => ?_, fun h => nomatch h⟩)
    refine ev_tup (ea_cons (ev_op (ev_var rfl (ev_int (od_ixT (d := .int r.1) rfl (ea_cons (ev_op (ev_var rfl (ev_int (od_ixT (d := .int r.2.1) rfl (ea_nil ⟨by simp, ?_⟩)))))))))))
    exact take_snoc placeD hr'
  · rintro l ds rfl rfl
    exact ⟨P, ss, rs, rfl, by rw [rowsD_len, List.take_length]⟩
def prePartT (c : Addr) : List D → Prop := fun ds => ∃ (P : Int) (ss rs : List Row) (i : Int), ds = [.ins c (tabF P ss rs), .int i] ∧ 1 ≤ P ∧ P ≤ 4 ∧ GoodRows P ss ∧ 0 ≤ i ∧ i < P
def partR (i : Int) (ss : List Row) : List Row := ss.filter fun r => decide (i ∈ r.2.2)
def postPartT (c : Addr) : List D → List D → Prop := fun ds es => ∃ (P : Int) (ss rs : List Row) (i : Int), ds = [.ins c (tabF P ss rs), .int i] ∧ es = (partR i ss).map placeD
theorem filter_snoc {α : Type} {xs : List α} {i : Nat} {x : α} {p : α → Bool} (h : xs[i]? = some x) : (xs.take (i + 1)).filter p = (xs.take i).filter p ++ (if p x then [x] else []) := by
  rw [List.take_succ, h, List.filter_append]
  cases hp : p x <;> simp [hp]
theorem ok_Table_part {P : Program} {w : World} {K : PySem.W.Frag} {mg : Str → Option Value} {base : Heap} (T : Txt K mg) : FnOk P w K mg base CX0 6 T.f_Table_part T.fd_Table_part ["self", "index"] (spN K (prePartT T.c_Table) (postPartT T.c_Table)) := by
  refine T.F_Table_part.ok sc_Table_part (spN_len fun ds ⟨P, ss, rs, i, e, _⟩ => by rw [e]; rfl) (fun cdv A outer s H vs Q E hr h => ?_)
  refine ⟨_, (pss_cons (ps_expr (pe_call (ok__check_part T) (hr.mono (by decide)) rfl T.g__check_part T.k__check_part T.bd__check_part .nil pass0 (pa_cons (pv 1) (pa_cons (peFld K (pv 0) rfl) pa_nil))))
    (pss_one (ps_ret (pe_lc (own := [("row", 2)]) rfl sc_Table_part.nd (piL K (peFld K (pv 0) rfl)) (blkOk_by (N := N_Table_part) (sc := defScope s_Table_part) (by decide +kernel)) (fun _ _ _ _ _ => (pg_name (i := 2) sc_Table_part.nd rfl (Or.inl rfl))) (fun _ _ _ _ _ => (pts_one (pt_cmpR (opIn K) (pv 1) (pe_ix (ixT K) (pv 2) pe_int (fun _ _ => rfl)) (by with_unfolding_all rfl)))) (fun _ _ _ _ _ => (pe_tup (pa_cons (pe_ix (ixT K) (pv 2) pe_int (fun _ _ => rfl)) (pa_cons (pe_ix (ixT K) (pv 2) pe_int (fun _ _ => rfl)) pa_nil)))))))), ?_⟩
  refine enterN h fun M ds pre _ => ?_
  obtain ⟨P, ss, rs, ix, rfl, h1, h4, g, hi0, hi1⟩ := pre
  have hz := g.sz
  refine do_drop (ev_call (ea_cons (ev_var rfl (ea_cons (ev_fld T.cf_Table.cl T.na_Table_parts (ev_var rfl ⟨_, _, rfl, tab_parts, ea_nil ⟨⟨ix, P, rfl, hi0, hi1⟩, fun _ _ => ?_⟩⟩))))))
  refine en_lc (js := [2]) (PX := fun l => l = rowsD ss) (it_list (ev_fld T.cf_Table.cl T.na_Table_rows (ev_var rfl ⟨_, _, rfl, tab_rows, _, rfl, rfl⟩))) (fun l e => by rw [e, rowsD_len]; omega) (by decide) (fun l i acc => acc = (partR ix (ss.take i)).map placeD) (fun l e => rfl) ?_ ?_
  · rintro l i d acc rfl hi rfl
    obtain ⟨r, hr', rfl⟩ := rowsD_get hi
    refine tg_name (et_test (ev_op (ev_var rfl (ev_op (ev_var rfl (ev_int (od_ixT (d := .tup (r.2.2.map .int)) rfl (od_inInts (t := true) ⟨_, rfl, fun hb => ?_, fun hb => ?_⟩))))))))
    · refine ev_tup (ea_cons (ev_op (ev_var rfl (ev_int (od_ixT (d := .int r.1) rfl (ea_cons (ev_op (ev_var rfl (ev_int (od_ixT (d := .int r.2.1) rfl (ea_nil ⟨by simp, ?_⟩)))))))))))
      unfold partR
      rw [filter_snoc hr', hb]
      simp [placeD]
    · unfold partR
      rw [filter_snoc hr', hb]
      simp
  · rintro l ds rfl rfl
    exact ⟨P, ss, rs, ix, rfl, by rw [rowsD_len, List.take_length]⟩
def postLenT (c : Addr) : List D → D → Prop := fun ds d => ∃ (P : Int) (ss rs : List Row), ds = [.ins c (tabF P ss rs)] ∧ d = .int (ss.length : Int)
theorem ok_Table_len {P : Program} {w : World} {K : PySem.W.Frag} {mg : Str → Option Value} {base : Heap} (T : Txt K mg) : FnOk P w K mg base CX0 2 T.f_Table_len T.fd_Table_len ["self"] (spD K (preSelf T.c_Table) (postLenT T.c_Table)) := by
  refine T.F_Table_len.ok sc_Table_len (spD_len fun ds ⟨P, ss, rs, e, _⟩ => by rw [e]; rfl) (fun cdv A outer s H vs Q E hr h => ?_)
  refine ⟨_, (pss_one (ps_ret (pe_callB (callLen K) (by rfl) T.b_len (by decide +kernel) (pa_cons (peFld K (pv 0) rfl) pa_nil)))), ?_⟩
  refine enterD h fun M ds pre _ => ?_
  obtain ⟨P, ss, rs, rfl, h1, h4, g⟩ := pre
  have hz := g.sz
  exact do_ret (ev_cb (ea_cons (ev_fld T.cf_Table.cl T.na_Table_rows (ev_var rfl ⟨_, _, rfl, tab_rows, ea_nil (cd_lenK (k := ss.length) (by simp [lenD, rowsD]) (by omega) ⟨P, ss, rs, rfl, rfl⟩)⟩))))
def postTrue : List D → D → Prop := fun _ d => d = .bl true
theorem ok_Table_bool {P : Program} {w : World} {K : PySem.W.Frag} {mg : Str → Option Value} {base : Heap} (T : Txt K mg) : FnOk P w K mg base CX0 2 T.f_Table_bool T.fd_Table_bool ["self"] (spD K (preSelf T.c_Table) postTrue) := by
  refine T.F_Table_bool.ok sc_Table_bool (spD_len fun ds ⟨P, ss, rs, e, _⟩ => by rw [e]; rfl) (fun cdv A outer s H vs Q E hr h => ?_)
  refine ⟨_, (pss_one (ps_ret pe_bl)), ?_⟩
  exact enterD h fun M ds pre _ => do_ret (ev_bl rfl)
theorem ints_eqv : ∀ xs ys : List Int, PyData.eqvAll (xs.map PyData.int) (ys.map PyData.int) = decide (xs = ys)
  | [], [] => by simp [PyData.eqvAll]
  | [], y :: ys => by simp [PyData.eqvAll]
  | x :: xs, [] => by simp [PyData.eqvAll]
  | x :: xs, y :: ys => by
    rw [List.map_cons, List.map_cons, PySem.W.eqv_all_cons, ints_eqv xs ys]
    simp only [PyData.eqv, Bool.beq_eq_decide_eq, List.cons.injEq, Bool.decide_and]
theorem row_eqv (r q : Row) : PyData.eqv (pyd (rowD r)) (pyd (rowD q)) = decide (r = q) := by
  obtain ⟨a, b, c⟩ := r
  obtain ⟨a', b', c'⟩ := q
  rw [pyd_row, pyd_row]
  simp only [PyData.eqv, PySem.W.eqv_all_cons, ints_eqv, Bool.beq_eq_decide_eq, Prod.mk.injEq, Bool.decide_and]
  simp [PyData.eqvAll]
theorem rows_eqvA : ∀ xs ys : List Row, PyData.eqvAll (pydL (rowsD xs)) (pydL (rowsD ys)) = decide (xs = ys)
  | [], [] => by simp [rowsD, pydL, PyData.eqvAll]
  | [], y :: ys => by simp [rowsD, pydL, PyData.eqvAll]
  | x :: xs, [] => by simp [rowsD, pydL, PyData.eqvAll]
  | x :: xs, y :: ys => by
    have ih := rows_eqvA xs ys
    unfold rowsD at ih ⊢
    rw [List.map_cons, List.map_cons, pydL, pydL, PySem.W.eqv_all_cons, ih, row_eqv]
    simp only [List.cons.injEq, Bool.decide_and]
theorem rows_eqv (xs ys : List Row) : PyData.eqv (pyd (.lst (rowsD xs))) (pyd (.lst (rowsD ys))) = decide (xs = ys) := by
  simp only [pyd, PyData.eqv]
  exact rows_eqvA xs ys
theorem plain_rows (rs : List Row) : plainD (.lst (rowsD rs)) = true := by
  simp only [plainD]
  exact (sortOk_rows rs).pl
theorem shaped_rows (rs : List Row) : SeqAt.shaped (pyd (.lst (rowsD rs))) = true := by
  have hi : ∀ ps : List Int, PyData.canLayAll0 (ps.map PyData.int) = true := fun ps => by
    induction ps with
    | nil => simp [PyData.canLayAll0]
    | cons p ps ih => simp [PyData.canLayAll0, PyData.canLay0, ih]
  have h : PyData.canLayAll0 (pydL (rowsD rs)) = true ∧ PyData.depthAll (pydL (rowsD rs)) ≤ 2 := by
    induction rs with
    | nil => simp [rowsD, pydL, PyData.canLayAll0, PyData.depthAll]
    | cons r rs ih =>
      unfold rowsD at ih ⊢
      rw [List.map_cons, pydL, pyd_row]
      simp only [PyData.canLayAll0, PyData.canLay0, hi, PyData.depthAll, PyData.depth, PySem.W.depth_ints, Bool.and_true, Bool.true_and]
      exact ⟨ih.1, by have := ih.2; omega⟩
  unfold SeqAt.shaped
  simp only [pyd, PyData.canLay0, PyData.depth, h.1, Bool.true_and, decide_eq_true_eq]
  have := h.2
  omega
def otherOk (c : Addr) (d : D) : Prop := (∃ (P : Int) (ss rs : List Row), d = .ins c (tabF P ss rs)) ∨ tyName d = some "list" ∨ tyName d = some "NoneType"
def sameTab (P : Int) (ss : List Row) : D → Bool
  | .ins _ [(_, .int P'), (_, .lst es), _] => decide (P = P') && PyData.eqv (pyd (.lst (rowsD ss))) (pyd (.lst es))
  | _ => false
def preEq (c : Addr) : List D → Prop := fun ds => ∃ (P : Int) (ss rs : List Row) (d : D), ds = [.ins c (tabF P ss rs), d] ∧ otherOk c d
def postEq (c : Addr) : List D → D → Prop := fun ds e => ∃ (P : Int) (ss rs : List Row) (d : D), ds = [.ins c (tabF P ss rs), d] ∧ e = .bl (sameTab P ss d)
theorem ok_Table_eq {P : Program} {w : World} {K : PySem.W.Frag} {mg : Str → Option Value} {base : Heap} (T : Txt K mg) : FnOk P w K mg base CX0 2 T.f_Table_eq T.fd_Table_eq ["self", "other"] (spD K (preEq T.c_Table) (postEq T.c_Table)) := by
  refine T.F_Table_eq.ok sc_Table_eq (spD_len fun ds ⟨P, ss, rs, d, e, _⟩ => by rw [e]; rfl) (fun cdv A outer s H vs Q E hr h => ?_)
  refine ⟨_, (pss_one (ps_ret (pe_and (pe_callB (callIsi K) (by rfl) T.b_isinstance (by decide +kernel) (pa_cons (pv 1) (pa_cons (pe_glob (v := .ref T.c_Table) rfl T.g_Table rfl) pa_nil))) (pe_and (pe_cmpR op_eq (peFld K (pv 0) rfl) (peFld K (pv 1) rfl) (nomark _)) (pe_one (pe_cmpR (opEqD K hr.units) (peFld K (pv 0) rfl) (peFld K (pv 1) rfl) (nomark _))))))), ?_⟩
  refine enterD h fun M ds pre _ => ?_
  obtain ⟨P, ss, rs, d, rfl, od⟩ := pre
  refine do_ret (ev_and (ev_cb (ea_cons (ev_var rfl (ea_cons (ev_adr (ea_nil ?_)))))))
  rcases od with ⟨P', ss', rs', rfl⟩ | hd | hd
  · refine cd_isiC (ty_ins T.cf_Table) T.kit_Table_own ⟨_, rfl, fun _ => ?_, fun h => nomatch h⟩
    refine ev_and (ev_op (ev_fld T.cf_Table.cl T.na_Table_parts (ev_var rfl ⟨_, _, rfl, tab_parts, ?_⟩)))
    refine ev_fld T.cf_Table.cl T.na_Table_parts (ev_var rfl ⟨_, _, rfl, tab_parts, od_eq_int ⟨_, rfl, fun hp => ?_, fun hp => ?_⟩⟩)
    · refine ev_op (ev_fld T.cf_Table.cl T.na_Table_rows (ev_var rfl ⟨_, _, rfl, tab_rows, ?_⟩))
      refine ev_fld T.cf_Table.cl T.na_Table_rows (ev_var rfl ⟨_, _, rfl, tab_rows, od_eqD (plain_rows ss) (plain_rows ss') (shaped_rows ss) (shaped_rows ss') ?_⟩)
      exact ⟨P, ss, rs, _, rfl, by simp only [sameTab, tabF, hp, Bool.true_and]⟩
    · exact ⟨P, ss, rs, _, rfl, by simp only [sameTab, tabF, hp, Bool.false_and]⟩
  · refine cd_isiC (ty_name hd) T.kit_Table_list ⟨_, rfl, (fun h => nomatch h), fun _ => ⟨P, ss, rs, _, rfl, ?_⟩⟩
    cases d <;> first | rfl | (simp [tyName] at hd)
  · refine cd_isiC (ty_name hd) T.kit_Table_NoneType ⟨_, rfl, (fun h => nomatch h), fun _ => ⟨P, ss, rs, _, rfl, ?_⟩⟩
    cases d <;> first | rfl | (simp [tyName] at hd)
def shownT (P n : Int) : Str := ((((Str.empty ++ ("Table(" : Str)) ++ (toString P : Str)) ++ (" parts, " : Str)) ++ (toString n : Str)) ++ (" rows)" : Str)
def postRepr (c : Addr) : List D → D → Prop := fun ds d => ∃ (P : Int) (ss rs : List Row), ds = [.ins c (tabF P ss rs)] ∧ d = .str (shownT P (ss.length : Int))
theorem small_text : ∀ n : Fin 301, ((toString ((n : Nat) : Int) : Str)).length ≤ 5 := by decide +kernel
theorem small_int {i : Int} (h0 : 0 ≤ i) (h1 : i ≤ 300) : (toString i : Str).length ≤ 5 ∧ i.natAbs.log2 < 1920 := by
  obtain ⟨n, rfl⟩ : ∃ n : Nat, i = (n : Int) := ⟨i.toNat, by omega⟩
  refine ⟨small_text ⟨n, by omega⟩, ?_⟩
  have h : ((n : Int)).natAbs = n := by simp
  rw [h]
  have : n.log2 ≤ 9 := by
    by_cases hn : n = 0
    · subst hn
      decide
    · have := (Nat.log2_lt hn (k := 10)).mpr (by omega)
      omega
  omega
theorem app_len (a b : Str) : (a ++ b).length = a.length + b.length := add_len a b
theorem ok_Table_repr {P : Program} {w : World} {K : PySem.W.Frag} {mg : Str → Option Value} {base : Heap} (T : Txt K mg) : FnOk P w K mg base CX0 2 T.f_Table_repr T.fd_Table_repr ["self"] (spD K (preSelf T.c_Table) (postRepr T.c_Table)) := by
  refine T.F_Table_repr.ok sc_Table_repr (spD_len fun ds ⟨P, ss, rs, e, _⟩ => by rw [e]; rfl) (fun cdv A outer s H vs Q E hr h => ?_)
  refine ⟨_, (pss_one (ps_ret (pe_joined (.cons pe_str (.cons (pe_fmt (peFld K (pv 0) rfl)) (.cons pe_str (.cons (pe_fmt (pe_callB (callLen K) (by rfl) T.b_len (by decide +kernel) (pa_cons (peFld K (pv 0) rfl) pa_nil))) (.cons pe_str .nil)))))))), ?_⟩
  refine enterD h fun M ds pre _ => ?_
  obtain ⟨P, ss, rs, rfl, h1, h4, g⟩ := pre
  have hz := g.sz
  obtain ⟨a1, a2⟩ := small_int (i := P) (by omega) (by omega)
  obtain ⟨b1, b2⟩ := small_int (i := (ss.length : Int)) (by omega) (by omega)
  have c1 : ("Table(" : Str).length = 6 := by decide +kernel
  have c2 : (" parts, " : Str).length = 8 := by decide +kernel
  have c3 : (" rows)" : Str).length = 6 := by decide +kernel
  have c0 : Str.empty.length = 0 := by decide +kernel
  refine do_ret (ev_joined ?_)
  refine ej_cons (ev_str ⟨_, rfl, by rw [app_len, c0, c1]; decide, ?_⟩)
  refine ej_cons (ev_fmtI (ev_fld T.cf_Table.cl T.na_Table_parts (ev_var rfl ⟨_, _, rfl, tab_parts, P, rfl, a2, _, rfl, by rw [app_len, app_len, c0, c1]; omega, ?_⟩)))
  refine ej_cons (ev_str ⟨_, rfl, by rw [app_len, app_len, app_len, c0, c1, c2]; omega, ?_⟩)
  refine ej_cons (ev_fmtI (ev_cb (ea_cons (ev_fld T.cf_Table.cl T.na_Table_rows (ev_var rfl ⟨_, _, rfl, tab_rows, ea_nil (cd_lenK (k := ss.length) (by simp [lenD, rowsD]) (by omega) ⟨_, rfl, b2, _, rfl, by rw [app_len, app_len, app_len, app_len, c0, c1, c2]; omega, ?_⟩)⟩)))))
  refine ej_cons (ev_str ⟨_, rfl, by rw [app_len, app_len, app_len, app_len, app_len, c0, c1, c2, c3]; omega, ej_nil ?_⟩)
  exact ⟨P, ss, rs, rfl, rfl⟩

end Pf

namespace Pf
open PySem L2 RZ
local macro_rules | `(tactic| walk_at "ev") => `(tactic| first
  | ((with_reducible refine' ev_var ?h ?_); (case h => rfl))
  | with_reducible refine ev_int ?_
  | with_reducible refine ev_bl ?_
  | with_reducible refine ev_str ?_
  | with_reducible refine ev_non ?_
  | with_reducible refine ev_ty ?_
  | with_reducible refine ev_op ?_
  | with_reducible refine ev_un ?_
  | with_reducible refine ev_chain ?_
  | with_reducible refine ev_if ?_
  | with_reducible refine ev_and ?_
  | with_reducible refine ev_or ?_
  | with_reducible refine ev_not ?_
  | with_reducible refine ev_lst ?_
  | with_reducible refine ev_tup ?_
  | with_reducible refine ea_nil ?_
  | with_reducible refine ea_cons ?_
  | with_reducible refine ev_cb ?_
  | with_reducible refine et_test ?_
  | with_reducible refine et_B ?_
  | with_reducible refine et_and ?_
  | with_reducible refine et_or ?_
  | with_reducible refine et_not ?_
  | with_reducible refine et_yes ?_
  | with_reducible refine eo_none ?_
  | with_reducible refine eo_some ?_
  | with_reducible refine ev_slS ?_
  | with_reducible refine od_int ?_
  | with_reducible refine od_bl ?_
  | with_reducible refine od_eq_int ?_
  | with_reducible refine od_ne_int ?_
  | with_reducible refine od_eq_bl ?_
  | with_reducible refine od_ne_bl ?_
  | with_reducible refine od_eq_str ?_
  | with_reducible refine od_ne_str ?_
  | with_reducible refine od_leS ?_
  | with_reducible refine ud_isN ?_
  | with_reducible refine ud_notN ?_
  | with_reducible refine do_seq ?_
  | with_reducible refine do_set ?_
  | with_reducible refine do_ret ?_
  | with_reducible refine do_retN ?_
  | with_reducible refine do_if ?_
  | with_reducible refine do_next ?_
  | with_reducible refine tg_name ?_
  | with_reducible refine tgs_nil ?_
  | with_reducible refine tgs_cons ?_)
/-! ### the law's own helpers: mixed lists, numbers, rows -/
section
variable {F : Fm} {δ : List SD} {P : D → Prop} {R : PD} {ta tb tc : TE}
theorem ev_lenO {i : Nat} {p : Addr} {ds : List D} (hi : δ[i]? = some (.own p (.lst ds))) (pz : P (.int (ds.length : Int))) : Ev F (tCB (rLenK F.K) (tCons (tVar i) tNil)) δ P := fun M σ H Q c q => by
  obtain ⟨y, h1, hy, m, ho, h3, r0⟩ := c.sl i _ hi
  subst hy
  cases r0 with
  | @lst ws _ r0 =>
    exact ⟨_, h1, _, ds.length, rfl, .inl ⟨_, SqL.of h3, r0.length.symm⟩, q _ _ H pz c (StepB.refl _ _) (.int _)⟩
/-- a, b, c = x, y, a new list -/
theorem do_par3N {i j l : Nat} (hij : i ≠ l) (hjl : j ≠ l) (h : Ev F ta δ fun x => Ev F tb δ fun y => EvN F tc δ fun ds => ∀ p, R.nx (((δ.set i (.dat x)).set j (.dat y)).set l (.own p (.lst ds)))) : Do F (tPar3 i j l (tCons ta (tCons tb (tCons tc tNil)))) δ R := fun M σ H E c a b k d =>
  h M σ H _ c fun v x H1 p1 c1 e1 r1 => p1 M σ H1 _ c1 fun w y H2 p2 c2 e2 r2 => p2 M σ H2 _ c2 fun p us ds H3 pd c3 hp h0 hb no e3 h3 r3 => by
    have k : StepB F.mv H H3 := (e1.trans e2).trans e3
    have hs : ∀ {Ha : Hp}, Ctx F M σ Ha δ → StepB F.mv Ha H3 → Same H2 H2 → (Ha p = none) → Same (hd M Ha) (hd (hid M p) H3) := fun {Ha} ca ea _ hn x o hx => by
      obtain ⟨m, h1⟩ := hd_of hx
      have n : x ≠ p := ne_of_none h1 hn
      refine hd_at (by rw [hid_ne n]; exact m) (ea x o (fun z => ?_) h1)
      have := ca.m0 x (z.elim (fun z => (ca.bg.1 x z).1) fun z => (ca.bg.2 x z).1)
      rw [m] at this
      cases this
    have n1 : H1 p = none := by
      cases z : H1 p with
      | none => rfl
      | some o =>
        have := e2 p o hb z
        rw [hp] at this
        cases this
    have n0 : H p = none := by
      cases z : H p with
      | none => rfl
      | some o =>
        have := e1 p o hb z
        rw [n1] at this
        cases this
    have ra := r1.mono (hs c1 (e2.trans e3) (Same.refl _) n1)
    have rb := r2.mono (hs c2 e3 (Same.refl _) hp)
    have c4 := ((c3.set i ra).set j rb).setOwn l (p := p) hid_same h3 (.lst r3) h0 hb fun q es hq hs' => by
      rcases set_key hs' with ⟨_, z, _⟩ | ⟨_, hs'⟩
      · cases z
      rcases set_key hs' with ⟨_, z, _⟩ | ⟨_, hs'⟩
      · cases z
      exact no q es hs'
    exact ⟨v, w, .ref p, rfl, a (hid M p) _ H3 _ (pd p) c4 (hs c k (Same.refl _) n0)⟩
end
def preMix : List D → Prop := fun ds => ∃ xs, ds = [.lst xs] ∧ xs.length ≤ 1000
def postMix : List D → D → Prop := fun ds d => ∃ xs ys, ds = [.lst xs] ∧ d = .lst ys ∧ ys.Perm xs
theorem ok_mixed {P : Program} {w : World} {K : PySem.W.Frag} {mg : Str → Option Value} {base : Heap} (T : Txt K mg) : FnOk P w K mg base CX0 4 T.f_mixed T.fd_mixed ["_law_bag", "_law_things"] (spB K preMix postMix) := by
  refine T.F_mixed.ok sc_mixed (spB_len fun ds ⟨xs, e, _⟩ => by rw [e]; rfl) (fun cdv A outer s H vs Q E hr h => ?_)
  refine ⟨_, (pss_cons (ps_set (i := 2) sc_mixed.nd rfl (Or.inl rfl) (pe_lst pa_nil))
    (pss_cons (ps_for PassesOwn.never rfl (piL K (pv 1)) (pg_name (i := 3) sc_mixed.nd rfl (Or.inl rfl))
      (pss_one (ps_expr (pe_bm PySem.F.plainAttrs_list PySem.F.slot_list_insert PySem.F.type_list_insert mt_insert (pv 2) (pa_cons (pe_call (ok_draw T) (hr.mono (by decide)) rfl T.g_draw T.k_draw T.bd_draw .nil pass0 (pa_cons (pv 0) (pa_cons (pe_op op_add (pe_callB (callLen K) (by rfl) T.b_len (by decide +kernel) (pa_cons (pv 2) pa_nil)) pe_int) pa_nil))) (pa_cons (pv 3) pa_nil))))))
    (pss_one (ps_ret (pv 2))))), ?_⟩
  refine enterB h fun M b c ds pre _ => ?_
  obtain ⟨xs, rfl, hz⟩ := pre
  refine do_seq (do_own (en_lst (ea_nil ⟨by decide, fun p => ?_⟩)))
  refine do_seq ?_
  refine do_for (js := [3]) (PX := fun l => l = xs) (it_list (ev_var rfl ⟨_, rfl, rfl⟩)) (fun l i δ => ∃ ys z, δ = [.bag, .dat (.lst xs), .own p (.lst ys), z] ∧ ys.Perm (xs.take i)) (fun l e => ⟨[], .un, rfl, by simp⟩) ?_ ?_
  · rintro l i d δ' rfl hi ⟨ys, z, rfl, pm⟩
    have hlt := (List.getElem?_eq_some_iff.mp hi).1
    have hy : ys.length = i := by rw [pm.length_eq, List.length_take]; omega
    refine tg_name (do_insert (i := 2) (p := p) (ds := ys) rfl (by omega) (ev_draw rfl rfl (ea_cons (ev_op (ev_lenO (i := 2) (p := p) (ds := ys) rfl (ev_int (od_int (ea_nil ⟨(ys.length : Int) + 1, rfl, by omega, by omega, fun r h0 h1 => ⟨r, rfl, h0, by omega, ev_var rfl ?_⟩⟩))))))))
    refine ⟨ys.take r.toNat ++ [d] ++ ys.drop r.toNat, .dat d, rfl, ?_⟩
    rw [List.take_succ, hi]
    have q1 : (ys.take r.toNat ++ [d] ++ ys.drop r.toNat).Perm (d :: ys) := by
      rw [List.append_assoc, List.singleton_append]
      exact List.perm_middle.trans (by rw [List.take_append_drop])
    refine q1.trans ((pm.cons d).trans ?_)
    simp only [Option.toList]
    exact (List.perm_append_singleton d _).symm
  · rintro l δ' rfl ⟨ys, z, rfl, pm⟩
    refine do_freeze (i := 2) rfl (do_ret (ev_var rfl ⟨_, ys, rfl, rfl, ?_⟩))
    rwa [List.take_length] at pm
def preNums : List D → Prop := fun ds => ∃ m : Int, ds = [.int m] ∧ 0 ≤ m ∧ m ≤ 64
structure Nums (ns : List Int) : Prop where
  nd : ns.Nodup
  lo : ∀ n ∈ ns, 0 ≤ n ∧ n ≤ 999999000
  sp : ∀ n ∈ ns, ∀ m ∈ ns, n - m ≤ 1000
def postNums : List D → D → Prop := fun ds d => ∃ (m : Int) (ns : List Int), ds = [.int m] ∧ d = .lst (ns.map .int) ∧ (ns.length : Int) = m ∧ Nums ns
theorem perm_ints {xs : List Int} {ys : List D} (h : ys.Perm (xs.map .int)) : ∃ ns : List Int, ys = ns.map .int ∧ ns.Perm xs := by
  have e : ∀ zs : List D, (∀ z ∈ zs, ∃ i, z = .int i) → zs = (zs.map fun d => match d with | .int i => i | _ => 0).map D.int := fun zs hz => by
    rw [List.map_map]
    conv => lhs; rw [← List.map_id zs]
    refine List.map_congr_left fun z hm => ?_
    obtain ⟨i, rfl⟩ := hz z hm
    rfl
  refine ⟨_, e ys fun z hz => ?_, ?_⟩
  · obtain ⟨i, _, rfl⟩ := List.mem_map.mp (h.mem_iff.mp hz)
    exact ⟨i, rfl⟩
  · have := h.map fun d => match d with | D.int i => i | _ => 0
    rw [List.map_map] at this
    simpa [Function.comp_def] using this
theorem ok_numbers {P : Program} {w : World} {K : PySem.W.Frag} {mg : Str → Option Value} {base : Heap} (T : Txt K mg) : FnOk P w K mg base CX0 6 T.f_numbers T.fd_numbers ["_law_bag", "_law_many"] (spB K preNums postNums) := by
  refine T.F_numbers.ok sc_numbers (spB_len fun ds ⟨xs, e, _⟩ => by rw [e]; rfl) (fun cdv A outer s H vs Q E hr h => ?_)
  refine ⟨_, (pss_cons (ps_asg (pe_tup (pa_cons (pe_call (ok_of T) (hr.mono (by decide)) rfl T.g_of T.k_of T.bd_of .nil pass0 (pa_cons (pv 0) (pa_cons (pe_lst (pa_cons pe_int (pa_cons pe_int (pa_cons (pe_call (ok_draw T) (hr.mono (by decide)) rfl T.g_draw T.k_draw T.bd_draw .nil pass0 (pa_cons (pv 0) (pa_cons pe_int pa_nil))) (pa_cons (pe_op op_sub (pe_op op_pow pe_int pe_int) pe_int) pa_nil))))) pa_nil))) (pa_cons (pe_op op_add pe_int (pe_call (ok_draw T) (hr.mono (by decide)) rfl T.g_draw T.k_draw T.bd_draw .nil pass0 (pa_cons (pv 0) (pa_cons pe_int pa_nil)))) pa_nil))) (pgTup K (n := 2) rfl (pgs_cons (pg_name (i := 2) sc_numbers.nd rfl (Or.inr rfl)) (pgs_cons (pg_name (i := 3) sc_numbers.nd rfl (Or.inr rfl)) pgs_nil))))
    (pss_one (ps_ret (pe_call (ok_mixed T) (hr.mono (by decide)) rfl T.g_mixed T.k_mixed T.bd_mixed .nil pass0 (pa_cons (pv 0) (pa_cons (pe_lc (own := [("_law_k", 4)]) rfl sc_numbers.nd (pi_range1 (by rfl) T.b_range (pa_cons (pv 1) pa_nil)) (blkOk_by (N := N_numbers) (sc := defScope s_numbers) (by decide +kernel)) (fun _ _ _ _ _ => (pg_name (i := 4) sc_numbers.nd rfl (Or.inl rfl))) (fun _ _ _ _ _ => pts_nil) (fun _ _ _ _ _ => (pe_op op_add (pv 2) (pe_op op_mul (pv 3) (pv 4))))) pa_nil)))))), ?_⟩
  refine enterB h fun M b c ds pre _ => ?_
  obtain ⟨m, rfl, h0, h1⟩ := pre
  refine do_seq (do_asg (js := [2, 3]) (ev_tup (ea_cons (ev_ofL rfl rfl ?_))))
  refine ea_cons (ev_lst (ea_cons (ev_int (ea_cons (ev_int (ea_cons (ev_draw rfl rfl (ea_cons (ev_int (ea_nil ⟨1000, rfl, by decide, by decide, fun r r0 r1 => ?_⟩))))))))))
  refine ea_cons (ev_op (ev_op (ev_int (ev_int (od_intC ⟨by decide, by decide, by decide⟩ (ev_int (od_int (ea_nil ⟨by simp, ea_nil ⟨_, rfl, by simp, by simp, fun d hd => ?_⟩⟩))))))))
  have hst : ∃ st : Int, d = .int st ∧ 0 ≤ st ∧ st ≤ 999997000 := by
    simp only [List.mem_cons, List.not_mem_nil, or_false] at hd
    rcases hd with rfl | rfl | rfl | rfl
    · exact ⟨_, rfl, by decide, by decide⟩
    · exact ⟨_, rfl, by decide, by decide⟩
    · exact ⟨_, rfl, r0, by omega⟩
    · exact ⟨_, rfl, by decide, by decide⟩
  obtain ⟨st, rfl, g0, g1⟩ := hst
  refine ea_cons (ev_op (ev_int (ev_draw rfl rfl (ea_cons (ev_int (ea_nil ⟨9, rfl, by decide, by decide, fun q q0 q1 => od_int (ea_nil ⟨by simp, ?_⟩)⟩))))))
  refine tg_tup rfl (tgs_cons (js := [2]) (ks := [3]) (tg_name (tgs_cons (js := [3]) (ks := []) (tg_name (tgs_nil ?_)))))
  have g2 : 1 ≤ 1 + q := by omega
  have g3 : 1 + q ≤ 9 := by omega
  generalize 1 + q = sp at g2 g3 ⊢
  refine do_ret (ev_callB rfl rfl (ea_cons (EvN.ev ?_)))
  refine en_lc (js := [4]) (PX := fun l => l = upto 0 m.toNat) (it_range1 (ea_cons (ev_var rfl (ea_nil ⟨m, rfl, by omega, by omega, rfl⟩)))) (fun l e => by rw [e, upto_len]; omega) (by decide) (fun l i acc => acc = ((List.range i).map fun k => st + sp * (k : Nat)).map D.int) (fun l e => rfl) ?_ ?_
  · rintro l i d acc rfl hi rfl
    obtain ⟨hlt, rfl⟩ := upto_get hi
    refine tg_name (et_yes ⟨fun _ => ?_, fun h => nomatch h⟩)
    refine ev_op (ev_var (d := .int st) rfl (ev_op (ev_var (d := .int sp) rfl (ev_var rfl (od_intC (Or.inl ⟨by omega, by omega⟩) (od_int ?_))))))
    rw [List.range_succ, List.map_append, List.map_append]
    simp
  · rintro l ds rfl rfl
    refine ea_nil ⟨⟨_, rfl, by simp [upto_len]; omega⟩, fun d hd => ?_⟩
    obtain ⟨xs, ys, e, rfl, pm⟩ := hd
    have e' := (List.cons.inj e).1
    obtain rfl := D.lst.inj e'
    obtain ⟨ns, rfl, pn⟩ := perm_ints pm
    rw [upto_len] at pn
    refine ⟨m, ns, rfl, rfl, by rw [pn.length_eq, List.length_map, List.length_range]; omega, ⟨pn.nodup_iff.mpr ?_, fun n hn => ?_, fun n hn q hq => ?_⟩⟩
    · refine List.Pairwise.map _ (R := fun a b : Nat => a ≠ b) (fun a b hab e => hab ?_) List.nodup_range
      have e2 : sp * (a : Int) = sp * (b : Int) := by omega
      have := Int.eq_of_mul_eq_mul_left (by omega) e2
      omega
    · obtain ⟨k, hk, rfl⟩ := List.mem_map.mp (pn.mem_iff.mp hn)
      have hk := List.mem_range.mp hk
      have : sp * (k : Int) ≤ 9 * 64 := Int.mul_le_mul g3 (by omega) (by omega) (by decide)
      have : 0 ≤ sp * (k : Int) := Int.mul_nonneg (by omega) (by omega)
      omega
    · obtain ⟨k, hk, rfl⟩ := List.mem_map.mp (pn.mem_iff.mp hn)
      obtain ⟨j, hj, rfl⟩ := List.mem_map.mp (pn.mem_iff.mp hq)
      have hk := List.mem_range.mp hk
      have : sp * (k : Int) ≤ 9 * 64 := Int.mul_le_mul g3 (by omega) (by omega) (by decide)
      have : 0 ≤ sp * (j : Int) := Int.mul_nonneg (by omega) (by omega)
      omega

end Pf

namespace Pf
open PySem L2 RZ
local macro_rules | `(tactic| walk_at "ev") => `(tactic| first
  | ((with_reducible refine' ev_var ?h ?_); (case h => rfl))
  | with_reducible refine ev_int ?_
  | with_reducible refine ev_bl ?_
  | with_reducible refine ev_str ?_
  | with_reducible refine ev_non ?_
  | with_reducible refine ev_ty ?_
  | with_reducible refine ev_op ?_
  | with_reducible refine ev_un ?_
  | with_reducible refine ev_chain ?_
  | with_reducible refine ev_if ?_
  | with_reducible refine ev_and ?_
  | with_reducible refine ev_or ?_
  | with_reducible refine ev_not ?_
  | with_reducible refine ev_lst ?_
  | with_reducible refine ev_tup ?_
  | with_reducible refine ea_nil ?_
  | with_reducible refine ea_cons ?_
  | with_reducible refine ev_cb ?_
  | with_reducible refine et_test ?_
  | with_reducible refine et_B ?_
  | with_reducible refine et_and ?_
  | with_reducible refine et_or ?_
  | with_reducible refine et_not ?_
  | with_reducible refine et_yes ?_
  | with_reducible refine eo_none ?_
  | with_reducible refine eo_some ?_
  | with_reducible refine ev_slS ?_
  | with_reducible refine od_int ?_
  | with_reducible refine od_bl ?_
  | with_reducible refine od_eq_int ?_
  | with_reducible refine od_ne_int ?_
  | with_reducible refine od_eq_bl ?_
  | with_reducible refine od_ne_bl ?_
  | with_reducible refine od_eq_str ?_
  | with_reducible refine od_ne_str ?_
  | with_reducible refine od_leS ?_
  | with_reducible refine ud_isN ?_
  | with_reducible refine ud_notN ?_
  | with_reducible refine do_seq ?_
  | with_reducible refine do_set ?_
  | with_reducible refine do_ret ?_
  | with_reducible refine do_retN ?_
  | with_reducible refine do_if ?_
  | with_reducible refine do_next ?_
  | with_reducible refine tg_name ?_
  | with_reducible refine tgs_nil ?_
  | with_reducible refine tgs_cons ?_)
theorem cd_tupL {K : PySem.W.Frag} {P : D → Prop} {xs : List D} (p : P (.tup xs)) : CallD K (rTupleK K) [.lst xs] P := fun M H vs Q al r q => by
  cases r with
  | cons r1 r2 =>
    cases r2
    cases r1 with
    | lst h1 h2 => exact ⟨_, _, rfl, .inl ⟨SqL.of (hd_of h1).2, fun l hl => q _ _ _ p (same_new hl) (.tup (SqT.of (hd_new al hl)) (h2.mono (same_hdM (same_new hl))))⟩⟩
def preNil : List D → Prop := fun ds => ds = []
def postBase : List D → D → Prop := fun _ d => ∃ k : Int, d = .int k ∧ -1000000000 ≤ k ∧ k ≤ 999999991
theorem ok_base {P : Program} {w : World} {K : PySem.W.Frag} {mg : Str → Option Value} {base : Heap} (T : Txt K mg) : FnOk P w K mg base CX0 6 T.f_base T.fd_base ["_law_bag"] (spB K preNil postBase) := by
  refine T.F_base.ok sc_base (spB_len fun ds e => by rw [e]; rfl) (fun cdv A outer s H vs Q E hr h => ?_)
  refine ⟨_, (pss_one (ps_ret (pe_call (ok_of T) (hr.mono (by decide)) rfl T.g_of T.k_of T.bd_of .nil pass0 (pa_cons (pv 0) (pa_cons (pe_lst (pa_cons pe_int (pa_cons pe_int (pa_cons (pe_op op_sub pe_int pe_int) (pa_cons (pe_op op_sub (pe_op op_pow pe_int pe_int) pe_int) (pa_cons (pe_op op_sub pe_int (pe_op op_pow pe_int pe_int)) pa_nil)))))) pa_nil))))), ?_⟩
  refine enterB h fun M b c ds pre _ => ?_
  obtain rfl := pre
  refine do_ret (ev_ofL rfl rfl ?_)
  repeat (first | walk_at "ev" | refine od_intC ⟨by decide, by decide, by decide⟩ ?_)
  refine ⟨by simp, ?_⟩
  refine ea_nil ⟨_, rfl, by simp, by simp, fun d hd => ?_⟩
  simp only [List.mem_cons, List.not_mem_nil, or_false] at hd
  rcases hd with rfl | rfl | rfl | rfl | rfl
  all_goals exact ⟨_, rfl, by decide, by decide⟩
def preSome : List D → Prop := fun ds => ∃ (P : Int) (cp : Bool), ds = [.int P, .bl cp] ∧ 1 ≤ P ∧ P ≤ 4
def postSome : List D → D → Prop := fun ds d => ∃ (P : Int) (cp : Bool) (ps : List Int), ds = [.int P, .bl cp] ∧ d = .tup (ps.map .int) ∧ ps ≠ [] ∧ Asc 0 P ps ∧ (cp = false → ps.length = 1)
theorem asc_of {P : Int} : ∀ {ps : List Int} {lo : Int}, ps.Pairwise (· < ·) → (∀ p ∈ ps, lo ≤ p ∧ p < P) → Asc lo P ps
  | [], _, _, _ => trivial
  | p :: ps, lo, hp, hb => by
    obtain ⟨h1, h2⟩ := List.pairwise_cons.mp hp
    have hb' := hb p (by simp)
    exact ⟨hb'.1, by omega, asc_of h2 fun q hq => ⟨by have := h1 q hq; omega, (hb q (List.mem_cons_of_mem _ hq)).2⟩⟩
theorem ok_some_parts {P : Program} {w : World} {K : PySem.W.Frag} {mg : Str → Option Value} {base : Heap} (T : Txt K mg) : FnOk P w K mg base CX0 6 T.f_some_parts T.fd_some_parts ["_law_bag", "_law_parts", "_law_copies"] (spB K preSome postSome) := by
  refine T.F_some_parts.ok sc_some_parts (spB_len fun ds ⟨P, cp, e, _⟩ => by rw [e]; rfl) (fun cdv A outer s H vs Q E hr h => ?_)
  refine ⟨_, (pss_cons (ps_set (i := 3) sc_some_parts.nd rfl (Or.inr rfl) (pe_call (ok_draw T) (hr.mono (by decide)) rfl T.g_draw T.k_draw T.bd_draw .nil pass0 (pa_cons (pv 0) (pa_cons (pv 1) pa_nil))))
    (pss_cons (ps_if (PW.pt (pw_or (pt_not (pt_val (pv 2))) (pw_or1 (pt_cmpR op_eq (pe_call (ok_draw T) (hr.mono (by decide)) rfl T.g_draw T.k_draw T.bd_draw .nil pass0 (pa_cons (pv 0) (pa_cons pe_int pa_nil))) pe_int (nomark _))))) (pss_one (ps_ret (pe_tup (pa_cons (pv 3) pa_nil)))) pss_nil)
    (pss_one (ps_ret (pe_callTy (callTuple K) (by rfl) T.b_tuple (by decide +kernel) (pa_cons (pe_lc (own := [("_law_part", 4)]) rfl sc_some_parts.nd (pi_range1 (by rfl) T.b_range (pa_cons (pv 1) pa_nil)) (blkOk_by (N := N_some_parts) (sc := defScope s_some_parts) (by decide +kernel)) (fun _ _ _ _ _ => (pg_name (i := 4) sc_some_parts.nd rfl (Or.inl rfl))) (fun _ _ _ _ _ => (pts_one (PW.pt (pw_or (pt_cmpR op_eq (pv 4) (pv 3) (nomark _)) (pw_or1 (pt_cmpR op_eq (pe_call (ok_draw T) (hr.mono (by decide)) rfl T.g_draw T.k_draw T.bd_draw .nil pass0 (pa_cons (pv 0) (pa_cons pe_int pa_nil))) pe_int (nomark _))))))) (fun _ _ _ _ _ => (pv 4))) pa_nil)))))), ?_⟩
  refine enterB h fun M b c ds pre _ => ?_
  obtain ⟨P, cp, rfl, h1, h4⟩ := pre
  refine do_seq (do_set (ev_draw rfl rfl (ea_cons (ev_var rfl (ea_nil ⟨P, rfl, by omega, by omega, fun f f0 f1 => ?_⟩)))))
  have rest : ∀ R : PD, R.rt = postSome [.int P, .bl cp] → cp = true → Do ⟨K, some b, M, H, E, c, []⟩ (tRet (tCB (rTupleK K) (tCons (tLc (iRng1 (tCons (tVar 1) tNil)) (gName 4) (tOr (tTest (tOp rEq (tVar 4) (tVar 3))) (tTest (tOp rEq (tCall (spB K preDraw postDraw) [] E0 (tCons (tVar 0) (tCons (tC (.int 2)) tNil))) (tC (.int 0))))) (tVar 4) [4]) tNil))) [.bag, .dat (.int P), .dat (.bl cp), .dat (.int f), .un] R := fun R hR hc => by
    refine do_ret (ev_cb (ea_cons (EvN.ev ?_)))
    rw [hR]
    refine en_lc (js := [4]) (PX := fun l => l = upto 0 P.toNat) (it_range1 (ea_cons (ev_var rfl (ea_nil ⟨P, rfl, by omega, by omega, rfl⟩)))) (fun l e => by rw [e, upto_len]; omega) (by decide) (fun l i acc => ∃ ps : List Int, acc = ps.map D.int ∧ ps.Pairwise (· < ·) ∧ (∀ p ∈ ps, 0 ≤ p ∧ p < (i : Int)) ∧ (f < (i : Int) → f ∈ ps)) (fun l e => ⟨[], rfl, .nil, fun p hp => by simp at hp, fun hf => by omega⟩) ?_ ?_
    · rintro l i d acc rfl hi ⟨ps, rfl, pw, bd, hf⟩
      obtain ⟨hlt, rfl⟩ := upto_get hi
      have yes : ∃ ps' : List Int, ps.map D.int ++ [D.int (0 + (i : Nat))] = ps'.map D.int ∧ ps'.Pairwise (· < ·) ∧ (∀ p ∈ ps', 0 ≤ p ∧ p < ((i + 1 : Nat) : Int)) ∧ (f < ((i + 1 : Nat) : Int) → f ∈ ps') := by
        refine ⟨ps ++ [(i : Int)], by simp, ?_, fun p hp => ?_, fun hf' => ?_⟩
        · rw [List.pairwise_append]
          exact ⟨pw, List.pairwise_singleton _ _, fun a ha b hb => by
            rw [List.mem_singleton.mp hb]
            exact (bd a ha).2⟩
        · rcases List.mem_append.mp hp with hp | hp
          · have := bd p hp
            omega
          · rw [List.mem_singleton.mp hp]
            omega
        · rw [List.mem_append, List.mem_singleton]
          by_cases e : f < (i : Int)
          · exact .inl (hf e)
          · exact .inr (by omega)
      refine tg_name (et_or (et_test (ev_op (ev_var rfl (ev_var rfl (od_eq_int ⟨_, rfl, fun he => ?_, fun he => ⟨fun _ => ev_var rfl yes, fun h => nomatch h⟩⟩))))))
      have hne : ¬ (0 + ((i : Nat) : Int)) = f := of_decide_eq_false he
      refine et_test (ev_op (ev_draw rfl rfl (ea_cons (ev_int (ea_nil ⟨2, rfl, by decide, by decide, fun r _ _ => ev_int (od_eq_int ⟨_, rfl, fun _ => ev_var rfl yes, fun _ => ⟨ps, rfl, pw, fun p hp => ?_, fun hf' => hf (by omega)⟩⟩)⟩)))))
      have := bd p hp
      omega
    · rintro l ds rfl ⟨ps, rfl, pw, bd, hf⟩
      rw [upto_len] at bd hf
      have hm := hf (by omega)
      refine ea_nil (cd_tupL ⟨P, cp, ps, rfl, rfl, fun e => ?_, asc_of pw (fun p hp => ?_), fun e => by rw [hc] at e; cases e⟩)
      · rw [e] at hm
        cases hm
      · have := bd p hp
        omega
  have one : postSome [.int P, .bl cp] (.tup [.int f]) := ⟨P, cp, [f], rfl, rfl, by simp, ⟨f0, by omega, trivial⟩, fun _ => rfl⟩
  refine do_seq (do_if (et_or (et_not (et_test (ev_var rfl ⟨cp, rfl, fun h => ?_, fun h => ?_⟩)))))
  · refine et_test (ev_op (ev_draw rfl rfl (ea_cons (ev_int (ea_nil ⟨2, rfl, by decide, by decide, fun r _ _ => ev_int (od_eq_int ⟨_, rfl, fun _ => ?_, fun _ => ?_⟩)⟩)))))
    · exact do_ret (ev_tup (ea_cons (ev_var rfl (ea_nil ⟨by simp, one⟩))))
    · exact do_next (rest _ rfl (by simpa using h))
  · exact ⟨fun _ => do_ret (ev_tup (ea_cons (ev_var rfl (ea_nil ⟨by simp, one⟩)))), fun h => nomatch h⟩
/-! rows as the laws draw them -/
structure LawRows (P : Int) (rs : List Row) : Prop where
  g : GoodRows P rs
  k : ∀ r ∈ rs, r.1 ≤ 999999996
  sp : ∀ r ∈ rs, ∀ q ∈ rs, r.2.1 - q.2.1 ≤ 1000
def preRws : List D → Prop := fun ds => ∃ (P m : Int) (cp : Bool), ds = [.int P, .int m, .bl cp] ∧ 1 ≤ P ∧ P ≤ 4 ∧ 0 ≤ m ∧ m ≤ 64
def postRws : List D → D → Prop := fun ds d => ∃ (P m : Int) (cp : Bool) (rs : List Row), ds = [.int P, .int m, .bl cp] ∧ d = .lst (rowsD rs) ∧ (rs.length : Int) = m ∧ LawRows P rs ∧ (cp = false → ∀ r ∈ rs, r.2.2.length = 1)
theorem nums_rows {P : Int} {ns : List Int} {rs : List Row} (N : Nums ns) (e : rs.map (fun r => r.2.1) = ns) (hz : ns.length ≤ 64) (h : ∀ r ∈ rs, -1000000000 ≤ r.1 ∧ r.1 ≤ 999999996 ∧ r.2.2 ≠ [] ∧ Asc 0 P r.2.2) : LawRows P rs := by
  have hm : ∀ r ∈ rs, r.2.1 ∈ ns := fun r hr => by
    rw [← e]
    exact List.mem_map_of_mem (f := fun r : Row => r.2.1) hr
  refine ⟨⟨fun r hr => ?_, by rw [e]; exact N.nd, ?_⟩, fun r hr => (h r hr).2.1, fun r hr q hq => N.sp _ (hm r hr) _ (hm q hq)⟩
  · obtain ⟨a1, a2, a3, a4⟩ := h r hr
    have := N.lo _ (hm r hr)
    exact ⟨a1, by omega, this.1, by omega, a3, a4⟩
  · rw [← e, List.length_map] at hz
    omega
theorem ok_rows {P : Program} {w : World} {K : PySem.W.Frag} {mg : Str → Option Value} {base : Heap} (T : Txt K mg) : FnOk P w K mg base CX0 8 T.f_rows T.fd_rows ["_law_bag", "_law_parts", "_law_many", "_law_copies"] (spB K preRws postRws) := by
  refine T.F_rows.ok sc_rows (spB_len fun ds ⟨P, m, cp, e, _⟩ => by rw [e]; rfl) (fun cdv A outer s H vs Q E hr h => ?_)
  refine ⟨_, (pss_cons (ps_par3 (i := 4) (j := 5) (l := 6) rfl sc_rows.nd rfl rfl rfl (by decide) (by decide) (by decide) rfl rfl rfl (pa_cons (pe_call (ok_base T) (hr.mono (by decide)) rfl T.g_base T.k_base T.bd_base .nil pass0 (pa_cons (pv 0) pa_nil)) (pa_cons (pe_op op_add pe_int (pe_call (ok_draw T) (hr.mono (by decide)) rfl T.g_draw T.k_draw T.bd_draw .nil pass0 (pa_cons (pv 0) (pa_cons pe_int pa_nil)))) (pa_cons (pe_lst pa_nil) pa_nil))) rfl)
    (pss_cons (ps_for PassesOwn.never rfl (piL K (pe_call (ok_numbers T) (hr.mono (by decide)) rfl T.g_numbers T.k_numbers T.bd_numbers .nil pass0 (pa_cons (pv 0) (pa_cons (pv 2) pa_nil)))) (pg_name (i := 7) sc_rows.nd rfl (Or.inl rfl))
      (pss_one (ps_expr (pe_bm PySem.F.plainAttrs_list PySem.F.slot_list_append PySem.F.type_list_append (mt_append) (pv 6) (pa_cons (pe_tup (pa_cons (pe_op op_add (pv 4) (pe_call (ok_draw T) (hr.mono (by decide)) rfl T.g_draw T.k_draw T.bd_draw .nil pass0 (pa_cons (pv 0) (pa_cons (pv 5) pa_nil)))) (pa_cons (pv 7) (pa_cons (pe_call (ok_some_parts T) (hr.mono (by decide)) rfl T.g_some_parts T.k_some_parts T.bd_some_parts .nil pass0 (pa_cons (pv 0) (pa_cons (pv 1) (pa_cons (pv 3) pa_nil)))) pa_nil)))) pa_nil)))))
    (pss_one (ps_ret (pv 6))))), ?_⟩
  refine enterB h fun M b c ds pre _ => ?_
  obtain ⟨P, m, cp, rfl, h1, h4, m0, m1⟩ := pre
  refine do_seq (do_par3N (by decide) (by decide) (ev_callB rfl rfl (ea_nil ⟨rfl, fun d hd => ?_⟩)))
  obtain ⟨k, rfl, k0, k1⟩ := hd
  refine ev_op (ev_int (ev_draw rfl rfl (ea_cons (ev_int (ea_nil ⟨6, rfl, by decide, by decide, fun q q0 q1 => od_int ?_⟩)))))
  refine en_lst (ea_nil ⟨by decide, fun p => ?_⟩)
  refine do_seq ?_
  refine do_for (js := [7]) (PX := fun l => ∃ ns : List Int, l = ns.map D.int ∧ (ns.length : Int) = m ∧ Nums ns) (it_list (ev_callB rfl rfl (ea_cons (ev_var rfl (ea_nil ⟨⟨m, rfl, m0, m1⟩, fun d hd => ?_⟩)))))
    (fun l i δ => ∃ rs z, δ = [.bag, .dat (.int P), .dat (.int m), .dat (.bl cp), .dat (.int k), .dat (.int (1 + q)), .own p (.lst (rowsD rs)), z] ∧ (∃ ns : List Int, l = ns.map D.int ∧ rs.map (fun r => r.2.1) = ns.take i) ∧ ∀ r ∈ rs, -1000000000 ≤ r.1 ∧ r.1 ≤ 999999996 ∧ r.2.2 ≠ [] ∧ Asc 0 P r.2.2 ∧ (cp = false → r.2.2.length = 1)) ?_ ?_ ?_
  · obtain ⟨m', ns, e, rfl, hl, N⟩ := hd
    cases e
    exact ⟨_, rfl, ns, rfl, hl, N⟩
  · rintro l ⟨ns, rfl, hl, N⟩
    exact ⟨[], .un, rfl, ⟨ns, rfl, rfl⟩, fun r hr => by simp at hr⟩
  · rintro l i d δ' ⟨ns, rfl, hl, N⟩ hi ⟨rs, z, rfl, ⟨ns', e, hn⟩, hr'⟩
    have inj : ns = ns' := by
      have := congrArg (List.map fun d => match d with | D.int i => i | _ => 0) e
      simpa [List.map_map, Function.comp_def] using this
    subst inj
    rw [List.getElem?_map] at hi
    cases hx : ns[i]? with
    | none => rw [hx] at hi; cases hi
    | some x =>
      rw [hx] at hi
      obtain rfl : D.int x = d := Option.some.inj hi
      have hlt := (List.getElem?_eq_some_iff.mp hx).1
      have hrl : rs.length = i := by
        have := congrArg List.length hn
        rw [List.length_map, List.length_take] at this
        omega
      refine tg_name (do_append (i := 6) (p := p) (ds := rowsD rs) rfl (by rw [rowsD_len]; omega) (ev_tup (ea_cons (ev_op (ev_var rfl (ev_draw rfl rfl (ea_cons (ev_var rfl (ea_nil ⟨1 + q, rfl, by omega, by omega, fun r r0 r1 => od_int ?_⟩)))))))))
      refine ea_cons (ev_var rfl (ea_cons (ev_callB rfl rfl (ea_cons (ev_var rfl (ea_cons (ev_var rfl (ea_nil ⟨⟨P, cp, rfl, h1, h4⟩, fun d hd => ?_⟩))))))))
      obtain ⟨P', cp', ps, e2, rfl, pne, pas, pc⟩ := hd
      cases e2
      refine ea_nil ⟨by simp, rs ++ [(k + r, x, ps)], .dat (.int x), by simp [rowsD, rowD], ⟨ns, rfl, ?_⟩, fun t ht => ?_⟩
      · rw [List.map_append, hn, List.take_succ, hx]
        rfl
      · rcases List.mem_append.mp ht with ht | ht
        · exact hr' t ht
        · rw [List.mem_singleton.mp ht]
          exact ⟨by show -1000000000 ≤ k + r; omega, by show k + r ≤ 999999996; omega, pne, pas, pc⟩
  · rintro l δ' ⟨ns, rfl, hl, N⟩ ⟨rs, z, rfl, ⟨ns', e, hn⟩, hr'⟩
    have inj : ns = ns' := by
      have := congrArg (List.map fun d => match d with | D.int i => i | _ => 0) e
      simpa [List.map_map, Function.comp_def] using this
    subst inj
    rw [List.length_map, List.take_length] at hn
    have hrl := congrArg List.length hn
    rw [List.length_map] at hrl
    exact do_freeze (i := 6) rfl (do_ret (ev_var rfl ⟨P, m, cp, rs, rfl, rfl, by omega, nums_rows N hn (by omega) (fun r hr => let q := hr' r hr; ⟨q.1, q.2.1, q.2.2.1, q.2.2.2.1⟩), fun hc r hr => (hr' r hr).2.2.2.2 hc⟩))

end Pf

namespace Pf
open PySem L2 RZ
local macro_rules | `(tactic| walk_at "ev") => `(tactic| first
  | ((with_reducible refine' ev_var ?h ?_); (case h => rfl))
  | with_reducible refine ev_int ?_
  | with_reducible refine ev_bl ?_
  | with_reducible refine ev_str ?_
  | with_reducible refine ev_non ?_
  | with_reducible refine ev_ty ?_
  | with_reducible refine ev_op ?_
  | with_reducible refine ev_un ?_
  | with_reducible refine ev_chain ?_
  | with_reducible refine ev_if ?_
  | with_reducible refine ev_and ?_
  | with_reducible refine ev_or ?_
  | with_reducible refine ev_not ?_
  | with_reducible refine ev_lst ?_
  | with_reducible refine ev_tup ?_
  | with_reducible refine ea_nil ?_
  | with_reducible refine ea_cons ?_
  | with_reducible refine ev_cb ?_
  | with_reducible refine et_test ?_
  | with_reducible refine et_B ?_
  | with_reducible refine et_and ?_
  | with_reducible refine et_or ?_
  | with_reducible refine et_not ?_
  | with_reducible refine et_yes ?_
  | with_reducible refine eo_none ?_
  | with_reducible refine eo_some ?_
  | with_reducible refine ev_slS ?_
  | with_reducible refine od_int ?_
  | with_reducible refine od_bl ?_
  | with_reducible refine od_eq_int ?_
  | with_reducible refine od_ne_int ?_
  | with_reducible refine od_eq_bl ?_
  | with_reducible refine od_ne_bl ?_
  | with_reducible refine od_eq_str ?_
  | with_reducible refine od_ne_str ?_
  | with_reducible refine od_leS ?_
  | with_reducible refine ud_isN ?_
  | with_reducible refine ud_notN ?_
  | with_reducible refine do_seq ?_
  | with_reducible refine do_set ?_
  | with_reducible refine do_ret ?_
  | with_reducible refine do_retN ?_
  | with_reducible refine do_if ?_
  | with_reducible refine do_next ?_
  | with_reducible refine tg_name ?_
  | with_reducible refine tgs_nil ?_
  | with_reducible refine tgs_cons ?_)
/-! rows changed at a place -/
def nilR : Row := (0, 0, [])
def idxMap (f : Nat → Row → Row) (rs : List Row) : List Row := (List.range rs.length).map fun i => f i (rs.getD i nilR)
theorem idxMap_len {f : Nat → Row → Row} {rs : List Row} : (idxMap f rs).length = rs.length := by simp [idxMap]
def bentAt (at_ a b : Int) (i : Nat) (r : Row) : Row := if (i : Int) = at_ ∧ r.2.1 < 100000000 then (r.1 + a, r.2.1 + b, r.2.2) else r
def fullAt (P at_ : Int) (i : Nat) (r : Row) : Row := if (i : Int) = at_ then (r.1, r.2.1, (List.range P.toNat).map fun k : Nat => (k : Int)) else r
theorem getD_mem {rs : List Row} {i : Nat} (h : i < rs.length) : rs.getD i nilR ∈ rs := by
  rw [List.getD_eq_getElem?_getD, List.getElem?_eq_getElem h]
  exact List.getElem_mem h
theorem nd_get {rs : List Row} (nd : (rs.map fun r => r.2.1).Nodup) {i j : Nat} (hi : i < j) (hj : j < rs.length) : (rs.getD i nilR).2.1 ≠ (rs.getD j nilR).2.1 := by
  have h := List.pairwise_iff_getElem.mp (List.pairwise_map.mp nd) i j (by omega) hj hi
  rw [List.getD_eq_getElem?_getD, List.getElem?_eq_getElem (by omega), List.getD_eq_getElem?_getD, List.getElem?_eq_getElem hj]
  exact h
theorem idx_good {P : Int} {f : Nat → Row → Row} {rs : List Row} (hz : rs.length ≤ 300) (h1 : ∀ i, i < rs.length → GoodRow P (f i (rs.getD i nilR))) (h2 : ∀ i j, i < j → j < rs.length → (f i (rs.getD i nilR)).2.1 ≠ (f j (rs.getD j nilR)).2.1) : GoodRows P (idxMap f rs) := by
  refine ⟨fun r hr => ?_, ?_, by rw [idxMap_len]; exact hz⟩
  · obtain ⟨i, hi, rfl⟩ := List.mem_map.mp hr
    exact h1 i (List.mem_range.mp hi)
  · refine List.pairwise_map.mpr (List.pairwise_iff_getElem.mpr fun i j hi hj hij => ?_)
    rw [idxMap_len] at hi hj
    have := h2 i j hij hj
    simpa [idxMap] using this
theorem bent_good {P at_ a b : Int} {rs : List Row} (L : LawRows P rs) (a0 : 0 ≤ a) (a1 : a ≤ 1) (hb : b = 0 ∨ b = 1000000) : GoodRows P (idxMap (bentAt at_ a b) rs) := by
  refine idx_good L.g.sz (fun i hi => ?_) fun i j hij hj => ?_
  · have hm := getD_mem hi
    have g := L.g.rw _ hm
    have hk := L.k _ hm
    unfold bentAt
    split
    · rename_i h
      have := h.2
      exact ⟨by have := g.k0; show _ ≤ _ + a; omega, by show _ + a ≤ _; omega, by have := g.n0; show _ ≤ _ + b; omega, by show _ + b ≤ _; omega, g.ne, g.as⟩
    · exact g
  · have hi : i < rs.length := by omega
    have nd := nd_get L.g.nd hij hj
    have s1 := L.sp _ (getD_mem hi) _ (getD_mem hj)
    have s2 := L.sp _ (getD_mem hj) _ (getD_mem hi)
    unfold bentAt
    split <;> split
    · rename_i h h'
      have := h.1
      have := h'.1
      omega
    · show _ + b ≠ _
      omega
    · show _ ≠ _ + b
      omega
    · exact nd
theorem asc_range {P : Int} : Asc 0 P ((List.range P.toNat).map fun k : Nat => (k : Int)) := by
  refine asc_of (List.pairwise_map.mpr (List.Pairwise.imp (fun {a b} h => by omega) List.pairwise_lt_range)) fun p hp => ?_
  obtain ⟨k, hk, rfl⟩ := List.mem_map.mp hp
  have := List.mem_range.mp hk
  omega
theorem full_good {P at_ : Int} {rs : List Row} (hP : 1 ≤ P) (L : LawRows P rs) : GoodRows P (idxMap (fullAt P at_) rs) := by
  refine idx_good L.g.sz (fun i hi => ?_) fun i j hij hj => ?_
  · have g := L.g.rw _ (getD_mem hi)
    unfold fullAt
    split
    · refine ⟨g.k0, g.k1, g.n0, g.n1, fun e => ?_, asc_range⟩
      have := congrArg List.length e
      simp at this
      omega
    · exact g
  · have nd := nd_get L.g.nd hij hj
    unfold fullAt
    split <;> split <;> exact nd
theorem rowsD_inj : ∀ {xs ys : List Row}, rowsD xs = rowsD ys → xs = ys
  | [], [], _ => rfl
  | [], _ :: _, h => by cases h
  | _ :: _, [], h => by cases h
  | x :: xs, y :: ys, h => by
    simp only [rowsD, List.map_cons, List.cons.injEq] at h
    obtain ⟨h1, h2⟩ := h
    have h2' : xs = ys := rowsD_inj h2
    have ex : x = y := by
      obtain ⟨a, b, c⟩ := x
      obtain ⟨a', b', c'⟩ := y
      simp only [rowD, D.tup.injEq, List.cons.injEq, D.int.injEq, and_true] at h1
      obtain ⟨rfl, rfl, h3⟩ := h1
      have : c = c' := by
        have hm := congrArg (List.map fun d => match d with | D.int i => i | _ => 0) h3
        simpa [List.map_map, Function.comp_def] using hm
      rw [this]
    rw [ex, h2']
theorem idx_snoc {f : Nat → Row → Row} {rs : List Row} {i : Nat} {r : Row} (h : rs[i]? = some r) : rowsD ((List.range i).map fun j => f j (rs.getD j nilR)) ++ [rowD (f i r)] = rowsD ((List.range (i + 1)).map fun j => f j (rs.getD j nilR)) := by
  rw [List.range_succ, List.map_append]
  simp [rowsD, List.getD_eq_getElem?_getD, h]
def preBent : List D → Prop := fun ds => ∃ (rs : List Row) (at_ a b : Int), ds = [.lst (rowsD rs), .int at_, .tup [.int a, .int b]] ∧ rs.length ≤ 1000
def postBent : List D → D → Prop := fun ds d => ∃ (rs : List Row) (at_ a b : Int), ds = [.lst (rowsD rs), .int at_, .tup [.int a, .int b]] ∧ d = .lst (rowsD (idxMap (bentAt at_ a b) rs))
/-! plain data of rows -/
theorem pl_row {P : Int} {r : Row} (hP : P ≤ 4) (hP0 : 0 ≤ P) (g : GoodRow P r) : plD (rowD r) = true := by
  have hl := g.as.len hP0
  simp only [rowD, plD, plL, plD_ints, Bool.and_true, Bool.true_and, List.length_cons, List.length_nil, List.length_map, Bool.and_eq_true, decide_eq_true_eq]
  omega
theorem pl_rows {P : Int} {rs : List Row} (hP : P ≤ 4) (hP0 : 0 ≤ P) (g : ∀ r ∈ rs, GoodRow P r) : plL (rowsD rs) = true := by
  induction rs with
  | nil => simp [rowsD, plL]
  | cons r rs ih =>
    have ih' := ih fun q hq => g q (List.mem_cons_of_mem _ hq)
    unfold rowsD at ih' ⊢
    rw [List.map_cons, plL, pl_row hP hP0 (g r (by simp)), ih']
    rfl
theorem pl_places (rs : List Row) : plL (rs.map placeD) = true := by
  induction rs with
  | nil => simp [plL]
  | cons r rs ih => simp [plL, placeD, plD, ih]
theorem depL_le {xs : List D} {n : Nat} (h : ∀ x ∈ xs, dep x ≤ n) : depL xs ≤ n := by
  induction xs with
  | nil => simp [depL]
  | cons x xs ih =>
    have h1 := h x (by simp)
    have h2 := ih fun y hy => h y (List.mem_cons_of_mem _ hy)
    simp only [depL]
    omega
theorem dep_row (r : Row) : dep (rowD r) ≤ 2 := by
  have : depL (r.2.2.map D.int) ≤ 0 := depL_le fun x hx => by
    obtain ⟨i, _, rfl⟩ := List.mem_map.mp hx
    simp [dep]
  simp only [rowD, dep, depL]
  omega
theorem dep_rows (rs : List Row) : dep (.lst (rowsD rs)) ≤ 3 := by
  have : depL (rowsD rs) ≤ 2 := depL_le fun x hx => by
    obtain ⟨r, _, rfl⟩ := List.mem_map.mp hx
    exact dep_row r
  simp only [dep]
  omega
theorem dep_places (rs : List Row) : dep (.lst (rs.map placeD)) ≤ 2 := by
  have : depL (rs.map placeD) ≤ 1 := depL_le fun x hx => by
    obtain ⟨r, _, rfl⟩ := List.mem_map.mp hx
    simp [placeD, dep, depL]
  simp only [dep]
  omega
def partsD (P : Int) (ss : List Row) : D := .lst ((List.range P.toNat).map fun k => .lst ((partR ((k : Nat) : Int) ss).map placeD))
theorem pl_parts {P : Int} {ss : List Row} (hP : P ≤ 4) (hz : ss.length ≤ 300) : plD (partsD P ss) = true := by
  unfold partsD
  simp only [plD, List.length_map, List.length_range, Bool.and_eq_true, decide_eq_true_eq]
  refine ⟨by omega, ?_⟩
  generalize List.range P.toNat = ks
  induction ks with
  | nil => simp [plL]
  | cons k ks ih =>
    have hl : (partR (k : Int) ss).length ≤ ss.length := List.length_filter_le _ _
    simp only [List.map_cons, plL, plD, pl_places, List.length_map, ih, Bool.and_true, decide_eq_true_eq]
    omega
theorem dep_parts (P : Int) (ss : List Row) : dep (partsD P ss) ≤ 3 := by
  have : depL ((List.range P.toNat).map fun k => D.lst ((partR ((k : Nat) : Int) ss).map placeD)) ≤ 2 := depL_le fun x hx => by
    obtain ⟨r, _, rfl⟩ := List.mem_map.mp hx
    exact dep_places _
  unfold partsD
  simp only [dep]
  omega
theorem isPlain_perm {xs ys : List Row} (h : xs.Perm ys) : isPlain xs = isPlain ys := by
  unfold isPlain
  rw [Bool.eq_iff_iff, List.all_eq_true, List.all_eq_true]
  exact ⟨fun a x hx => a x (h.mem_iff.mpr hx), fun a x hx => a x (h.mem_iff.mp hx)⟩
/-- the data of all that is asked -/
def seenD (P : Int) (rs : List Row) : List D := [.lst (rowsD (sortR rs)), .lst ((sortR rs).map placeD), partsD P (sortR rs), .int P, .bl (isPlain rs), .int (rs.length : Int), .bl true, .str (shownT P (rs.length : Int))]
theorem pl_seen {P : Int} {rs : List Row} (hP : 1 ≤ P) (hP4 : P ≤ 4) (g : GoodRows P rs) : plD (.lst (seenD P rs)) = true := by
  have gs := g.sort
  have hz := gs.sz
  have h1 := pl_rows hP4 (by omega) gs.rw
  have h2 := pl_parts (P := P) hP4 hz
  have h3 : decide ((sortR rs).length ≤ 10000) = true := decide_eq_true (by omega)
  simp only [seenD, plD, plL, h1, h2, h3, pl_places, rowsD_len, List.length_map, List.length_cons, List.length_nil, Bool.and_true]
  exact decide_eq_true (by omega)
theorem dep_seen {P : Int} {rs : List Row} : dep (.lst (seenD P rs)) ≤ 4 := by
  have : depL (seenD P rs) ≤ 3 := depL_le fun x hx => by
    simp only [seenD, List.mem_cons, List.not_mem_nil, or_false] at hx
    rcases hx with rfl | rfl | rfl | rfl | rfl | rfl | rfl | rfl
    · exact dep_rows _
    · have := dep_places (sortR rs); omega
    · exact dep_parts _ _
    all_goals simp [dep]
  simp only [dep]
  omega
/-- the order is one whatever the rows' order was -/
theorem sorted_uniq {α : Type} {le : α → α → Bool} (anti : ∀ a b, le a b = true → le b a = true → a = b) : ∀ {l m : List α}, l.Pairwise (fun a b => le a b = true) → m.Pairwise (fun a b => le a b = true) → l.Perm m → l = m
  | [], m, _, _, p => (List.Perm.eq_nil p.symm).symm
  | x :: l, [], _, _, p => absurd p.length_eq (by simp)
  | x :: l, y :: m, hl, hm, p => by
    have e : x = y := by
      rcases List.mem_cons.mp (p.mem_iff.mp (List.mem_cons_self (a := x) (l := l))) with e | hx
      · exact e
      rcases List.mem_cons.mp (p.mem_iff.mpr (List.mem_cons_self (a := y) (l := m))) with e | hy
      · exact e.symm
      exact anti x y ((List.pairwise_cons.mp hl).1 y hy) ((List.pairwise_cons.mp hm).1 x hx)
    subst e
    rw [sorted_uniq anti (List.pairwise_cons.mp hl).2 (List.pairwise_cons.mp hm).2 p.cons_inv]
theorem alike_rows (r q : Row) : PySem.W.alike (pyd (rowD r)) (pyd (rowD q)) = true := by
  rw [pyd_row, pyd_row]
  simp [PySem.W.alike, PySem.W.alikeAll, PySem.W.alike_ints]
theorem toks_inj {r q : Row} (h : PySem.W.keyToks (pyd (rowD r)) = PySem.W.keyToks (pyd (rowD q))) : r = q := by
  cases e : PyData.eqv (pyd (rowD r)) (pyd (rowD q)) with
  | true =>
    rw [row_eqv] at e
    exact of_decide_eq_true e
  | false =>
    have k := (PySem.W.toks_eqv _ _ (alike_rows r q)).2 e
    have k1 := k [] [.inl 0]
    have k2 := k [.inl 0] []
    rw [h] at k1 k2
    have k3 := k1.trans k2.symm
    rw [PySem.W.lex_pre, PySem.W.lex_pre] at k3
    cases k3
theorem row_anti (a b : Row) (h1 : PySem.W.dataLe false (fun r => pyd (rowD r)) a b = true) (h2 : PySem.W.dataLe false (fun r => pyd (rowD r)) b a = true) : a = b := by
  rw [PySem.W.dataLe_eq] at h1 h2
  have g1 : PySem.W.dataLt (pyd (rowD b)) (pyd (rowD a)) = false := by simpa using h1
  have g2 : PySem.W.dataLt (pyd (rowD a)) (pyd (rowD b)) = false := by simpa using h2
  exact toks_inj ((PyProof.Rows.listOrd PyProof.Rows.itemOrd).total _ _ g2 g1)
theorem sortR_of_perm {xs ys : List Row} (h : xs.Perm ys) : sortR xs = sortR ys := by
  have T := PySem.W.sortLe_total (PyProof.Rows.listOrd PyProof.Rows.itemOrd) false fun r : Row => PySem.W.keyToks (pyd (rowD r))
  exact sorted_uniq row_anti (PySem.W.sort_pairwise T xs) (PySem.W.sort_pairwise T ys) ((sortR_perm xs).trans (h.trans (sortR_perm ys).symm))
theorem sub_ty {K : PySem.W.Frag} {C : Addr} {n : String} (h : n ∈ tyNames) : PySem.W.subIn K (.type n) (.ref C) = some false := by
  have key : ∀ (n : String) (l : List Value), fastBuiltinMro n = some l → (l.all fun v => match v with | .type _ => true | _ => false) = true → PySem.W.subIn K (.type n) (.ref C) = some false := fun n l e hl => by
    show (fastBuiltinMro n).map (·.contains (.ref C)) = some false
    rw [e]
    show some (l.contains (Value.ref C)) = some false
    congr 1
    rw [List.contains_eq_any_beq, List.any_eq_false]
    intro v hv
    have := List.all_eq_true.mp hl v hv
    cases v <;> simp_all
  simp only [tyNames, List.mem_cons, List.not_mem_nil, or_false] at h
  rcases h with rfl | rfl | rfl | rfl | rfl | rfl | rfl
  · exact key _ [.type "NoneType", .type "object"] (by decide +kernel) (by decide)
  · exact key _ [.type "bool", .type "int", .type "object"] (by decide +kernel) (by decide)
  · exact key _ [.type "int", .type "object"] (by decide +kernel) (by decide)
  · exact key _ [.type "str", .type "object"] (by decide +kernel) (by decide)
  · exact key _ [.type "list", .type "object"] (by decide +kernel) (by decide)
  · exact key _ [.type "tuple", .type "object"] (by decide +kernel) (by decide)
  · exact key _ [.type "dict", .type "object"] (by decide +kernel) (by decide)
theorem kit_own {K : PySem.W.Frag} {C : Addr} : PySem.W.kitOne K (.ref C) (.ref C) = some true := by
  unfold PySem.W.kitOne
  rw [if_pos (by simp)]
theorem kit_ty {K : PySem.W.Frag} {C : Addr} {n : String} (hc : PySem.W.isClsIn K C = true) (ht : PySem.W.typeIn K (.ref C) = some (.type "type")) (h : n ∈ tyNames) : PySem.W.kitOne K (.type n) (.ref C) = some false := by
  unfold PySem.W.kitOne
  rw [if_neg (by simp)]
  show (if ((PySem.W.clsIn K C).isSome && PySem.W.typeIn K (.ref C) == some (.type "type")) = true then PySem.W.subIn K (.type n) (.ref C) else none) = some false
  have hc' : (PySem.W.clsIn K C).isSome = true := hc
  rw [if_pos (by rw [hc', ht]; simp), sub_ty h]
theorem nf_own {K : PySem.W.Frag} {C : Addr} : PySem.W.notFirst K C (.ref C) = true := by simp [PySem.W.notFirst]
theorem nf_ty {K : PySem.W.Frag} {C : Addr} {n : String} (h : n ∈ tyNames) : PySem.W.notFirst K C (.type n) = true := by
  unfold PySem.W.notFirst
  rw [sub_ty h]
  simp
theorem raw0 {P : Program} {w : World} {K : PySem.W.Frag} {mg : Str → Option Value} {base : Heap} {CX : CXT} {k : Nat} {f : Addr} {sp : Sp} {fd : FuncData} {ps : List Str} (F : FnOk P w K mg base CX k f fd ps sp) (hb : Binds K fd ps []) : FnR P w K mg base CX k f sp :=
  (F.raw hb .nil).imp fun vs H Q E h => by rw [List.append_nil]; exact h
theorem tab_no {f : Str} {P : Int} {ss rs : List Row} (h1 : (f == "_parts") = false) (h2 : (f == "_rows") = false) (h3 : (f == "_by_number") = false) : List.lookup f (tabF P ss rs) = none := by
  unfold tabF
  rw [List.lookup_cons, h1]
  simp only
  rw [List.lookup_cons, h2]
  simp only
  rw [List.lookup_cons, h3]
  rfl
theorem tab_inj {c : Addr} {P P' : Int} {ss ss' rs rs' : List Row} (h : D.ins c (tabF P ss rs) = .ins c (tabF P' ss' rs')) : P = P' ∧ ss = ss' := by
  simp only [tabF, D.ins.injEq, true_and, List.cons.injEq, Prod.mk.injEq, D.int.injEq, D.lst.injEq] at h
  exact ⟨h.1, rowsD_inj h.2.1⟩
theorem perm_rows {rs : List Row} {ys : List D} (h : ys.Perm (rowsD rs)) : ∃ qs : List Row, ys = rowsD qs ∧ qs.Perm rs := by
  induction rs generalizing ys with
  | nil =>
    refine ⟨[], ?_, .nil⟩
    exact List.Perm.eq_nil h
  | cons r rs ih =>
    have hm : rowD r ∈ ys := h.mem_iff.mpr (by simp [rowsD])
    obtain ⟨a, b, rfl⟩ := List.append_of_mem hm
    have h' : (a ++ b).Perm (rowsD rs) := by
      have : (rowD r :: (a ++ b)).Perm (rowD r :: rowsD rs) := List.perm_middle.symm.trans h
      exact this.cons_inv
    obtain ⟨qs, e, pq⟩ := ih h'
    unfold rowsD at e
    obtain ⟨q1, q2, e1, e2, e3⟩ := List.map_eq_append_iff.mp e.symm
    refine ⟨q1 ++ r :: q2, ?_, ?_⟩
    · rw [← e2, ← e3]
      simp [rowsD]
    · rw [e1] at pq
      exact List.perm_middle.trans (pq.cons r)
theorem GoodRows.perm {P : Int} {rs qs : List Row} (g : GoodRows P rs) (h : qs.Perm rs) : GoodRows P qs :=
  ⟨fun r hr => g.rw r (h.mem_iff.mp hr), (h.map _).nodup_iff.mpr g.nd, by rw [h.length_eq]; exact g.sz⟩
theorem Asc.up {P : Int} : ∀ {ps : List Int} {lo : Int}, Asc lo P ps → Asc lo (P + 1) ps
  | [], _, _ => trivial
  | p :: ps, lo, ⟨h1, h2, h3⟩ => ⟨h1, by omega, h3.up⟩
theorem GoodRows.up {P : Int} {rs : List Row} (g : GoodRows P rs) : GoodRows (P + 1) rs :=
  ⟨fun r hr => let q := g.rw r hr; ⟨q.k0, q.k1, q.n0, q.n1, q.ne, q.as.up⟩, g.nd, g.sz⟩
theorem not_whole (a b c : D) : ¬ (HT.sIx [a, b, c].length 0 none = 0 ∧ HT.sIx [a, b, c].length [a, b, c].length (some 2) = [a, b, c].length) := by
  show ¬ (HT.sIx 3 0 none = 0 ∧ HT.sIx 3 3 (some 2) = 3)
  decide
theorem cut2 (a b c : D) : cutD [a, b, c] none (some 2) = [a, b] := by rfl
section
variable {K : PySem.W.Frag} {mg : Str → Option Value} {F : Fm} {δ : List SD} {E E' : XK} {i : Nat} {P : Int} {rs : List Row} {Q : D → Prop} {te : TE}
/-- Table(P, rows) -/
theorem ev_table {c : Addr} {ta : TA} (hP : 1 ≤ P) (hP4 : P ≤ 4) (h : EvA F ta δ fun ds => ∃ rs, ds = [.int P, .lst (rowsD rs)] ∧ GoodRows P rs ∧ Q (.ins c (tabF P (sortR rs) rs))) : Ev F (tMake c (spIS F.K c preTab postTab) [] E ta) δ Q :=
  ev_makeS (h.imp fun ds ⟨rs, e, g, q⟩ => ⟨rowsD rs, [.int P], .lst (rowsD rs), e, .inl rfl, ⟨P, rs, rfl, rfl, hP, hP4, g⟩, fun fs ⟨P', rs', e1, e2, ef⟩ => by
    cases e1
    obtain rfl := rowsD_inj e2
    subst ef
    exact q⟩)
/-- made == another -/
theorem od_tabEq {c : Addr} {neg : Bool} {ss rs0 : List Row} {d : D} {tb : Value} (ty : ∀ (H : Hp) (w : V), Rep K H w d → TyX K H w tb) (hn : PySem.W.notFirst K c tb = true) (ok : otherOk c d) (q : Q (.bl (if neg then !sameTab P ss d else sameTab P ss d))) :
    OpD K (rEqOwn K c (spD K (preEq c) (postEq c)) E neg) (.ins c (tabF P ss rs0)) d Q :=
  od_eqOwn ty hn ⟨P, ss, rs0, d, rfl, ok⟩ fun e ⟨P', ss', rs', d', e1, e2⟩ => by
    obtain ⟨h1, h2⟩ := List.cons.inj e1
    obtain ⟨rfl, rfl⟩ := tab_inj h1
    obtain rfl := (List.cons.inj h2).1
    exact ⟨_, e2, q⟩
end
theorem same_tab {P P' : Int} {ss ss' rs' : List Row} {c : Addr} : sameTab P ss (.ins c (tabF P' ss' rs')) = (decide (P = P') && decide (ss = ss')) := by
  simp only [sameTab, tabF, rows_eqv]
theorem toStr_ofs (P n : Int) : ((((("Table(" : Str) ++ (toString P : Str)) ++ (" parts, " : Str)) ++ (toString n : Str)) ++ (" rows)" : Str)) = shownT P n := by
  unfold shownT
  have : ∀ s : Str, Str.empty ++ s = s := fun s => by
    cases s
    show (⟨#[] ++ _⟩ : Str) = _
    simp
  rw [this]
section
variable {c : Addr} {P : Int} {ss rs : List Row}
theorem rows_of {es : List D} (h : postRowsT c [.ins c (tabF P ss rs)] es) : es = rowsD ss := by
  obtain ⟨P', ss', rs', e, rfl⟩ := h
  obtain ⟨rfl, rfl⟩ := tab_inj (List.cons.inj e).1
  rfl
theorem places_of {es : List D} (h : postPlaces c [.ins c (tabF P ss rs)] es) : es = ss.map placeD := by
  obtain ⟨P', ss', rs', e, rfl⟩ := h
  obtain ⟨rfl, rfl⟩ := tab_inj (List.cons.inj e).1
  rfl
theorem part_of {es : List D} {i : Int} (h : postPartT c [.ins c (tabF P ss rs), .int i] es) : es = (partR i ss).map placeD := by
  obtain ⟨P', ss', rs', i', e, rfl⟩ := h
  obtain ⟨e1, e2⟩ := List.cons.inj e
  obtain ⟨rfl, rfl⟩ := tab_inj e1
  obtain rfl := D.int.inj (List.cons.inj e2).1
  rfl
theorem parts_of {d : D} (h : postParts c [.ins c (tabF P ss rs)] d) : d = .int P := by
  obtain ⟨P', ss', rs', e, rfl⟩ := h
  obtain ⟨rfl, rfl⟩ := tab_inj (List.cons.inj e).1
  rfl
theorem plain_of {d : D} (h : postPlain c [.ins c (tabF P ss rs)] d) : d = .bl (isPlain ss) := by
  obtain ⟨P', ss', rs', e, rfl⟩ := h
  obtain ⟨rfl, rfl⟩ := tab_inj (List.cons.inj e).1
  rfl
theorem len_of {d : D} (h : postLenT c [.ins c (tabF P ss rs)] d) : d = .int (ss.length : Int) := by
  obtain ⟨P', ss', rs', e, rfl⟩ := h
  obtain ⟨rfl, rfl⟩ := tab_inj (List.cons.inj e).1
  rfl
theorem repr_of {d : D} (h : postRepr c [.ins c (tabF P ss rs)] d) : d = .str (shownT P (ss.length : Int)) := by
  obtain ⟨P', ss', rs', e, rfl⟩ := h
  obtain ⟨rfl, rfl⟩ := tab_inj (List.cons.inj e).1
  rfl
end
theorem ev_tupRg1 {F : Fm} {δ : List SD} {te : TE} {P : D → Prop} (h : Ev F te δ fun d => ∃ n : Int, d = .int n ∧ 0 ≤ n ∧ n ≤ 1000 ∧ P (.tup (upto 0 n.toNat))) : Ev F (tTupRg (tRg1 te)) δ P := fun M σ H Q c q =>
  h M σ H _ c fun v d H1 p1 c1 e1 r1 => by
    obtain ⟨n, rfl, h0, h1, p⟩ := p1
    cases r1
    refine ⟨n, rfl, RgOk.of_le (by omega) (by omega) (by omega) (by omega), fun a ha => q _ _ _ p (c1.same (same_new ha)) (e1.trans (StepB.of (same_new ha))) (.tup (SqT.of (hd_new c1.al ha)) ?_)⟩
    have key : ∀ (H : Hp) (l : List Nat), RepL F.K H (l.map fun i => V.int (0 + (i : Nat))) (l.map fun i => D.int (0 + (i : Nat))) := fun H l => by
      induction l with
      | nil => exact .nil
      | cons x l ih => exact .cons (.int _) ih
    have e : (n - 0).toNat = n.toNat := by omega
    unfold rgV upto
    rw [e]
    exact key _ _

end Pf

namespace Pf
open PySem L2 RZ
local macro_rules | `(tactic| walk_at "ev") => `(tactic| first
  | ((with_reducible refine' ev_var ?h ?_); (case h => rfl))
  | with_reducible refine ev_int ?_
  | with_reducible refine ev_bl ?_
  | with_reducible refine ev_str ?_
  | with_reducible refine ev_non ?_
  | with_reducible refine ev_ty ?_
  | with_reducible refine ev_op ?_
  | with_reducible refine ev_un ?_
  | with_reducible refine ev_chain ?_
  | with_reducible refine ev_if ?_
  | with_reducible refine ev_and ?_
  | with_reducible refine ev_or ?_
  | with_reducible refine ev_not ?_
  | with_reducible refine ev_lst ?_
  | with_reducible refine ev_tup ?_
  | with_reducible refine ea_nil ?_
  | with_reducible refine ea_cons ?_
  | with_reducible refine ev_cb ?_
  | with_reducible refine et_test ?_
  | with_reducible refine et_B ?_
  | with_reducible refine et_and ?_
  | with_reducible refine et_or ?_
  | with_reducible refine et_not ?_
  | with_reducible refine et_yes ?_
  | with_reducible refine eo_none ?_
  | with_reducible refine eo_some ?_
  | with_reducible refine ev_slS ?_
  | with_reducible refine od_int ?_
  | with_reducible refine od_bl ?_
  | with_reducible refine od_eq_int ?_
  | with_reducible refine od_ne_int ?_
  | with_reducible refine od_eq_bl ?_
  | with_reducible refine od_ne_bl ?_
  | with_reducible refine od_eq_str ?_
  | with_reducible refine od_ne_str ?_
  | with_reducible refine od_leS ?_
  | with_reducible refine ud_isN ?_
  | with_reducible refine ud_notN ?_
  | with_reducible refine do_seq ?_
  | with_reducible refine do_set ?_
  | with_reducible refine do_ret ?_
  | with_reducible refine do_retN ?_
  | with_reducible refine do_if ?_
  | with_reducible refine do_next ?_
  | with_reducible refine tg_name ?_
  | with_reducible refine tgs_nil ?_
  | with_reducible refine tgs_cons ?_)
/-! ### places in order -/
def pD (p : Int × Int) : D := .tup [.int p.1, .int p.2]
def plc (r : Row) : Int × Int := (r.1, r.2.1)
theorem placeD_eq (r : Row) : placeD r = pD (plc r) := rfl
theorem places_eq (rs : List Row) : rs.map placeD = (rs.map plc).map pD := by rw [List.map_map]; rfl
theorem pyd_p (p : Int × Int) : pyd (pD p) = .tuple [.int p.1, .int p.2] := by simp [pD, pyd, pydL]
def sortP (ps : List (Int × Int)) : List (Int × Int) := ps.mergeSort (PySem.W.dataLe false fun p => pyd (pD p))
theorem sortD_pl (ps : List (Int × Int)) : sortD (ps.map pD) = (sortP ps).map pD := by
  unfold sortD sortP
  exact (PySem.W.sort_maps pD fun a _ b _ => rfl).symm
theorem sortP_perm (ps : List (Int × Int)) : (sortP ps).Perm ps := List.mergeSort_perm _ _
theorem le_pl (a b : Int × Int) : PySem.W.dataLe false (fun p => pyd (pD p)) a b = decide (a.1 < b.1 ∨ (a.1 = b.1 ∧ a.2 ≤ b.2)) := by
  have e : (fun p : Int × Int => pyd (pD p)) = fun p => .tuple [.int p.1, .int p.2] := funext pyd_p
  rw [e, PySem.W.dataLe_ii (fun p : Int × Int => p.1) (fun p => p.2)]
theorem sortP_uniq {ps qs : List (Int × Int)} (hq : qs.Pairwise fun a b => PySem.W.dataLe false (fun p => pyd (pD p)) a b = true) (p : ps.Perm qs) : sortP ps = qs := by
  have T := PySem.W.sortLe_total (PyProof.Rows.listOrd PyProof.Rows.itemOrd) false fun r : Int × Int => PySem.W.keyToks (pyd (pD r))
  refine sorted_uniq (fun a b h1 h2 => ?_) (PySem.W.sort_pairwise T ps) hq ((sortP_perm ps).trans p)
  replace h1 : PySem.W.dataLe false (fun p => pyd (pD p)) a b = true := h1
  replace h2 : PySem.W.dataLe false (fun p => pyd (pD p)) b a = true := h2
  rw [le_pl] at h1 h2
  have h1 := of_decide_eq_true h1
  have h2 := of_decide_eq_true h2
  obtain ⟨a1, a2⟩ := a
  obtain ⟨b1, b2⟩ := b
  simp only [Prod.mk.injEq] at *
  omega
theorem row_le_pl {a b : Row} (h : PySem.W.dataLe false (fun r => pyd (rowD r)) a b = true) : PySem.W.dataLe false (fun p => pyd (pD p)) (plc a) (plc b) = true := by
  rw [le_pl]
  rw [PySem.W.dataLe_eq] at h
  have g : PySem.W.dataLt (pyd (rowD b)) (pyd (rowD a)) = false := by simpa using h
  rw [pyd_row, pyd_row, PySem.W.dataLt_tuple, PySem.W.dataLt_cons (by simp [PySem.W.alike]), PySem.W.dataLt_cons (by simp [PySem.W.alike]), PySem.W.dataLt_int, PySem.W.dataLt_int] at g
  simp only [PyData.eqv, beq_iff_eq] at g
  refine decide_eq_true ?_
  show a.1 < b.1 ∨ (a.1 = b.1 ∧ a.2.1 ≤ b.2.1)
  by_cases e1 : b.1 = a.1
  · rw [if_pos e1] at g
    by_cases e2 : b.2.1 = a.2.1
    · exact .inr ⟨e1.symm, by omega⟩
    · rw [if_neg e2] at g
      have := of_decide_eq_false g
      exact .inr ⟨e1.symm, by omega⟩
  · rw [if_neg e1] at g
    have := of_decide_eq_false g
    omega
theorem part_sorted (i : Int) (rs : List Row) : sortD ((partR i rs).map placeD) = (partR i (sortR rs)).map placeD := by
  rw [places_eq, places_eq, sortD_pl]
  congr 1
  have T := PySem.W.sortLe_total (PyProof.Rows.listOrd PyProof.Rows.itemOrd) false fun r : Row => PySem.W.keyToks (pyd (rowD r))
  have pw : (sortR rs).Pairwise fun a b => PySem.W.dataLe false (fun r => pyd (rowD r)) a b = true := PySem.W.sort_pairwise T rs
  refine sortP_uniq (List.Pairwise.map plc (fun a b h => row_le_pl h) (pw.filter _)) ?_
  exact (((sortR_perm rs).symm.filter _).map plc)
/-! lists of places -/
def AllPl (ds : List D) : Prop := ∃ ps : List (Int × Int), ds = ps.map pD
theorem AllPl.of {ds : List D} (h : ∀ d ∈ ds, ∃ p, d = pD p) : AllPl ds := by
  induction ds with
  | nil => exact ⟨[], rfl⟩
  | cons d ds ih =>
    obtain ⟨p, rfl⟩ := h d (by simp)
    obtain ⟨ps, rfl⟩ := ih fun x hx => h x (List.mem_cons_of_mem _ hx)
    exact ⟨p :: ps, rfl⟩
theorem AllPl.mem {ds : List D} (h : AllPl ds) : ∀ d ∈ ds, ∃ p, d = pD p := by
  obtain ⟨ps, rfl⟩ := h
  intro d hd
  obtain ⟨p, _, rfl⟩ := List.mem_map.mp hd
  exact ⟨p, rfl⟩
theorem AllPl.cut {ds : List D} {lo hi : Option Int} (h : AllPl ds) : AllPl (cutD ds lo hi) :=
  .of fun d hd => h.mem d (List.mem_of_mem_drop (List.mem_of_mem_take hd))
theorem AllPl.sort {ds : List D} (h : AllPl ds) : AllPl (sortD ds) := .of fun d hd => h.mem d ((List.mergeSort_perm _ _).mem_iff.mp hd)
theorem AllPl.app {ds es : List D} (h : AllPl ds) (g : AllPl es) : AllPl (ds ++ es) := .of fun d hd => (List.mem_append.mp hd).elim (h.mem d) (g.mem d)
theorem allPl_rows (rs : List Row) : AllPl (rs.map placeD) := ⟨_, places_eq rs⟩
theorem sortOk_pl (ps : List (Int × Int)) : SortOk (ps.map pD) := by
  have e : (ps.map pD).map pyd = ps.map fun p => PyData.tuple [.int p.1, .int p.2] := by
    rw [List.map_map]
    exact List.map_congr_left fun p _ => pyd_p p
  refine ⟨?_, ?_, ?_, fun d hd => ?_⟩
  · clear e
    induction ps with
    | nil => simp [plainL]
    | cons p ps ih => simp only [List.map_cons, plainL, pD, plainD, Bool.and_true, Bool.true_and]; exact ih
  · rw [e]
    exact PySem.W.AllAlike.of fun r r' => by simp [PySem.W.alike, PySem.W.alikeAll]
  · rw [e]
    exact PySem.W.Sortable.tuples fun r => ⟨_, _, rfl⟩
  · obtain ⟨p, _, rfl⟩ := List.mem_map.mp hd
    rw [pyd_p]
    simp only [PyData.depth, PyData.depthAll]
    decide
theorem AllPl.sortOk {ds : List D} (h : AllPl ds) : SortOk ds := by
  obtain ⟨ps, rfl⟩ := h
  exact sortOk_pl ps
theorem AllPl.pl {ds : List D} (h : AllPl ds) : plL ds = true := by
  obtain ⟨ps, rfl⟩ := h
  induction ps with
  | nil => simp [plL]
  | cons p ps ih => simp only [List.map_cons, plL, pD, plD, Bool.and_true, Bool.true_and]; exact ih
theorem AllPl.dep {ds : List D} (h : AllPl ds) : dep (.lst ds) ≤ 2 := by
  obtain ⟨ps, rfl⟩ := h
  have : depL (ps.map pD) ≤ 1 := depL_le fun x hx => by
    obtain ⟨p, _, rfl⟩ := List.mem_map.mp hx
    simp [pD, Pf.dep, depL]
  simp only [Pf.dep]
  omega
/-! what the parts send -/
def sentTo (ss : List Row) (as : List Int) (n : Nat) : List D := ((List.range n).map fun k => cutD ((partR ((k : Nat) : Int) ss).map placeD) none (some (as.getD k 0))).flatten
theorem sentTo_succ (ss : List Row) (as : List Int) (n : Nat) : sentTo ss as (n + 1) = sentTo ss as n ++ cutD ((partR ((n : Nat) : Int) ss).map placeD) none (some (as.getD n 0)) := by
  unfold sentTo
  rw [List.range_succ, List.map_append, List.flatten_append]
  simp
theorem sentTo_pl (ss : List Row) (as : List Int) : ∀ n, AllPl (sentTo ss as n)
  | 0 => ⟨[], rfl⟩
  | n + 1 => by
    rw [sentTo_succ]
    exact (sentTo_pl ss as n).app (allPl_rows _).cut
theorem piece_len (ss : List Row) (i : Int) (o : Option Int) : (cutD ((partR i ss).map placeD) none o).length ≤ ss.length := by
  refine Nat.le_trans cutD_length ?_
  rw [List.length_map]
  exact List.length_filter_le _ _
theorem sentTo_len (ss : List Row) (as : List Int) : ∀ n, (sentTo ss as n).length ≤ n * ss.length
  | 0 => by simp [sentTo]
  | n + 1 => by
    rw [sentTo_succ, List.length_append]
    have h1 := sentTo_len ss as n
    have h2 := piece_len ss (n : Int) (some (as.getD n 0))
    have : (n + 1) * ss.length = n * ss.length + ss.length := by rw [Nat.add_mul, Nat.one_mul]
    omega
/-! ### the checks -/
def preP1 (c : Addr) : List D → Prop := fun ds => ∃ (P : Int) (ss rs : List Row), ds = [.ins c (tabF P ss rs)] ∧ 1 ≤ P ∧ P ≤ 4 ∧ GoodRows P ss ∧ ∀ r ∈ ss, r.2.2.length = 1
theorem ok_check_plain {P : Program} {w : World} {K : PySem.W.Frag} {mg : Str → Option Value} {base : Heap} (T : Txt K mg) : FnOk P w K mg base CX0 4 T.f_check_plain T.fd_check_plain ["table"] (spD K (preP1 T.c_Table) postNon) := by
  refine T.F_check_plain.ok sc_check_plain (spD_len fun ds ⟨P, ss, rs, e, _⟩ => by rw [e]; rfl) (fun cdv A outer s H vs Q E hr h => ?_)
  refine ⟨_, (pss_one (ps_for PassesOwn.never rfl (pi_enumA K (by rfl) T.b_enumerate (pa_cons (pe_meth0 (pv 0) T.cf_Table.cl T.m_Table_rows (ok_Table_rows T) (hr.mono (by decide)) T.bd_Table_rows .nil pass0) pa_nil)) (pgTup K (n := 2) rfl (pgs_cons (pg_name (i := 1) sc_check_plain.nd rfl (Or.inl rfl)) (pgs_cons (pg_name (i := 2) sc_check_plain.nd rfl (Or.inl rfl)) pgs_nil)))
      (pss_one (ps_if (pt_cmpR op_gt (pe_callB (callLen K) (by rfl) T.b_len (by decide +kernel) (pa_cons (pe_ix (ixT K) (pv 2) pe_int (fun _ _ => rfl)) pa_nil)) pe_int (nomark _)) (pss_one ps_never) pss_nil)))), ?_⟩
  refine enterD h fun M ds pre _ => ?_
  obtain ⟨P, ss, rs, rfl, h1, h4, g, h5⟩ := pre
  refine do_for (js := [1, 2]) (PX := fun l => l = numbered (rowsD ss)) (it_enumL (EvN.ev (en_meth (ev_var rfl ⟨_, rfl, tab_no (by decide) (by decide) (by decide), ea_nil ⟨⟨P, ss, rs, rfl, h1, h4, g⟩, fun es he => ?_⟩⟩)))) (fun l i δ => ∃ a b, δ = [.dat (.ins T.c_Table (tabF P ss rs)), a, b]) (fun l e => ⟨.un, .un, rfl⟩) ?_ ?_
  · obtain rfl := rows_of he
    exact ⟨_, rfl, rfl⟩
  · rintro l i d δ' rfl hi ⟨a, b, rfl⟩
    have hlt : i < (rowsD ss).length := by
      have := (List.getElem?_eq_some_iff.mp hi).1
      rwa [numbered_len] at this
    obtain ⟨r, hr', hrd⟩ := rowsD_get (List.getElem?_eq_getElem hlt)
    have he := numbered_get (List.getElem?_eq_getElem hlt)
    rw [hi] at he
    obtain rfl := Option.some.inj he
    rw [hrd]
    refine tg_tup rfl (tgs_cons (js := [1]) (ks := [2]) (tg_name (tgs_cons (js := [2]) (ks := []) (tg_name (tgs_nil ?_)))))
    refine do_if (et_test (ev_op (ev_cb (ea_cons (ev_op (ev_var rfl (ev_int (od_ixT (d := .tup (r.2.2.map .int)) rfl (ea_nil (cd_lenK (k := 1) (by simp [lenD, h5 r (List.mem_of_getElem? hr')]) (by decide) (ev_int (od_bl ⟨_, rfl, fun h => ?_, fun _ => do_next ⟨_, _, rfl⟩⟩))))))))))))
    simp at h
  · rintro l δ' rfl ⟨a, b, rfl⟩
    exact rfl
theorem getInt {ns : List Int} {i : Nat} {d : D} (h : (ns.map D.int)[i]? = some d) : ∃ n, ns[i]? = some n ∧ d = .int n := by
  rw [List.getElem?_map] at h
  cases e : ns[i]? with
  | none => rw [e] at h; cases h
  | some r =>
    rw [e] at h
    exact ⟨r, rfl, (Option.some.inj h).symm⟩
def preAk : List D → Prop := fun ds => ∃ (as ls : List Int) (m : Int), ds = [.tup (as.map .int), .tup (ls.map .int), .int m] ∧ (as.length : Int) ∈ ls ∧ as.length ≤ 1000 ∧ ∀ a ∈ as, 1 ≤ a ∧ a ≤ m
theorem ok_check_asks {P : Program} {w : World} {K : PySem.W.Frag} {mg : Str → Option Value} {base : Heap} (T : Txt K mg) : FnOk P w K mg base CX0 4 T.f_check_asks T.fd_check_asks ["asks", "lengths", "most"] (spD K preAk postNon) := by
  refine T.F_check_asks.ok sc_check_asks (spD_len fun ds ⟨as, ls, m, e, _⟩ => by rw [e]; rfl) (fun cdv A outer s H vs Q E hr h => ?_)
  refine ⟨_, (pss_cons (ps_if (PW.pt (pw_or (pt_not (pt_val (pe_callB (callIsi K) (by rfl) T.b_isinstance (by decide +kernel) (pa_cons (pv 0) (pa_cons (pe_bltn (v := .ty "tuple") (by rfl) T.b_tuple (by decide +kernel) rfl) pa_nil))))) (pw_or1 (pt_cmpR (opNotIn K) (pe_callB (callLen K) (by rfl) T.b_len (by decide +kernel) (pa_cons (pv 0) pa_nil)) (pv 1) (by with_unfolding_all rfl))))) (pss_one ps_never) pss_nil)
    (pss_one (ps_for PassesOwn.never rfl (piT K (pv 0)) (pg_name (i := 3) sc_check_asks.nd rfl (Or.inl rfl))
      (pss_one (ps_if (pt_not (pt_val (pe_call (ok_is_number T) (hr.mono (by decide)) rfl T.g_is_number T.k_is_number T.bd_is_number .nil pass0 (pa_cons (pv 3) (pa_cons pe_int (pa_cons (pv 2) pa_nil)))))) (pss_one ps_never) pss_nil))))), ?_⟩
  refine enterD h fun M ds pre _ => ?_
  obtain ⟨as, ls, m, rfl, hm, hz, ha⟩ := pre
  refine do_seq (do_if (et_or (et_not (et_test (ev_cb (ea_cons (ev_var rfl (ea_cons (ev_ty (ea_nil (cd_isi (a := "tuple") rfl (by decide) ⟨_, rfl, fun _ => ?_, fun h => nomatch h⟩)))))))))))
  refine et_test (ev_op (ev_cb (ea_cons (ev_var rfl (ea_nil (cd_lenK (k := as.length) (by simp [lenD]) (by omega) ?_))))))
  refine ev_var rfl (od_ninIntsT ⟨_, rfl, fun h => ?_, fun _ => do_next ?_⟩)
  · simp [hm] at h
  refine do_for (js := [3]) (PX := fun l => l = as.map .int) (it_tup (ev_var rfl ⟨_, rfl, rfl⟩)) (fun l i δ => ∃ z, δ = [.dat (.tup (as.map .int)), .dat (.tup (ls.map .int)), .dat (.int m), z]) (fun l e => ⟨.un, rfl⟩) ?_ ?_
  · rintro l i d δ' rfl hi ⟨z, rfl⟩
    obtain ⟨a, ha', rfl⟩ := getInt hi
    obtain ⟨a0, a1⟩ := ha a (List.mem_of_getElem? ha')
    refine tg_name (do_if (et_not (et_test (ev_num (ea_cons (ev_var rfl (ea_cons (ev_int (ea_cons (ev_var rfl (ea_nil ⟨_, _, _, rfl, rfl, _, rfl, ?_⟩)))))))))))
    rw [isNum_yes a0 a1]
    exact ⟨(fun h => nomatch h), fun _ => do_next ⟨_, rfl⟩⟩
  · rintro l δ' rfl ⟨z, rfl⟩
    exact rfl
def preCn : List D → Prop := fun ds => ∃ s z : Int, ds = [.int s, .int z] ∧ 0 ≤ s ∧ s ≤ 50 ∧ 0 ≤ z ∧ z ≤ 50
theorem ok__check_numbers {P : Program} {w : World} {K : PySem.W.Frag} {mg : Str → Option Value} {base : Heap} (T : Txt K mg) : FnOk P w K mg base CX0 4 T.f__check_numbers T.fd__check_numbers ["skip", "size"] (spD K preCn postNon) := by
  refine T.F__check_numbers.ok sc__check_numbers (spD_len fun ds ⟨s, z, e, _⟩ => by rw [e]; rfl) (fun cdv A outer s H vs Q E hr h => ?_)
  refine ⟨_, (pss_one (ps_for PassesOwn.never rfl (piT K (pe_tup (pa_cons (pv 0) (pa_cons (pv 1) pa_nil)))) (pg_name (i := 2) sc__check_numbers.nd rfl (Or.inl rfl))
      (pss_one (ps_if (pt_not (pt_val (pe_call (ok_is_number T) (hr.mono (by decide)) rfl T.g_is_number T.k_is_number T.bd_is_number .nil pass0 (pa_cons (pv 2) (pa_cons pe_int (pa_cons (pe_glob (v := .int 50) rfl T.g_MOST_NUMBER_windows ⟨_, rfl⟩) pa_nil)))))) (pss_one ps_never) pss_nil)))), ?_⟩
  refine enterD h fun M ds pre _ => ?_
  obtain ⟨sk, sz, rfl, h1, h2, h3, h4⟩ := pre
  refine do_for (js := [2]) (PX := fun l => l = [sk, sz].map .int) (it_tup (ev_tup (ea_cons (ev_var rfl (ea_cons (ev_var rfl (ea_nil ⟨by simp, _, rfl, rfl⟩))))))) (fun l i δ => ∃ y, δ = [.dat (.int sk), .dat (.int sz), y]) (fun l e => ⟨.un, rfl⟩) ?_ ?_
  · rintro l i d δ' rfl hi ⟨y, rfl⟩
    obtain ⟨a, ha', rfl⟩ := getInt hi
    have ha : 0 ≤ a ∧ a ≤ 50 := by
      have hm := List.mem_of_getElem? ha'
      simp only [List.mem_cons, List.not_mem_nil, or_false] at hm
      rcases hm with rfl | rfl
      · exact ⟨h1, h2⟩
      · exact ⟨h3, h4⟩
    refine tg_name (do_if (et_not (et_test (ev_num (ea_cons (ev_var rfl (ea_cons (ev_int (ea_cons (ev_int (ea_nil ⟨_, _, _, rfl, rfl, _, rfl, ?_⟩)))))))))))
    rw [isNum_yes ha.1 ha.2]
    exact ⟨(fun h => nomatch h), fun _ => do_next ⟨_, rfl⟩⟩
  · rintro l δ' rfl ⟨y, rfl⟩
    exact rfl
/-! ### the window -/
def winD (ss : List Row) (as : List Int) (sk sz : Int) : List D := cutD (sortD (sentTo ss as as.length)) (some sk) (some (sk + sz))
def preWin (c : Addr) : List D → Prop := fun ds => ∃ (P : Int) (ss rs : List Row) (as : List Int) (sk sz : Int), ds = [.ins c (tabF P ss rs), .tup (as.map .int), .int sk, .int sz] ∧ 1 ≤ P ∧ P ≤ 4 ∧ GoodRows P ss ∧ (∀ r ∈ ss, r.2.2.length = 1) ∧ (as.length : Int) = P ∧ (∀ a ∈ as, 1 ≤ a ∧ a ≤ 99) ∧ 0 ≤ sk ∧ sk ≤ 50 ∧ 0 ≤ sz ∧ sz ≤ 50
def postWin (c : Addr) : List D → D → Prop := fun ds d => ∃ (P : Int) (ss rs : List Row) (as : List Int) (sk sz : Int), ds = [.ins c (tabF P ss rs), .tup (as.map .int), .int sk, .int sz] ∧ d = .lst (winD ss as sk sz)
theorem ok_window {P : Program} {w : World} {K : PySem.W.Frag} {mg : Str → Option Value} {base : Heap} (T : Txt K mg) : FnOk P w K mg base CX0 8 T.f_window T.fd_window ["table", "asks", "skip", "size"] (spD K (preWin T.c_Table) (postWin T.c_Table)) := by
  refine T.F_window.ok sc_window (spD_len fun ds ⟨P, ss, rs, as, sk, sz, e, _⟩ => by rw [e]; rfl) (fun cdv A outer s H vs Q E hr h => ?_)
  refine ⟨_, (pss_cons (ps_expr (pe_call (ok_check_plain T) (hr.mono (by decide)) rfl T.g_check_plain T.k_check_plain T.bd_check_plain .nil pass0 (pa_cons (pv 0) pa_nil)))
    (pss_cons (ps_expr (pe_call (ok_check_asks T) (hr.mono (by decide)) rfl T.g_check_asks T.k_check_asks T.bd_check_asks .nil pass0 (pa_cons (pv 1) (pa_cons (pe_tup (pa_cons (pe_prop (pv 0) T.cf_Table.cl T.pr_Table_parts (ok_Table_parts T) (hr.mono (by decide)) T.bd_Table_parts .nil pass0 rfl) pa_nil)) (pa_cons (pe_glob (v := .int 99) rfl T.g__MOST_ASK ⟨_, rfl⟩) pa_nil)))))
    (pss_cons (ps_expr (pe_call (ok__check_numbers T) (hr.mono (by decide)) rfl T.g__check_numbers T.k__check_numbers T.bd__check_numbers .nil pass0 (pa_cons (pv 2) (pa_cons (pv 3) pa_nil))))
    (pss_cons (ps_set (i := 4) sc_window.nd rfl (Or.inl rfl) (pe_lst pa_nil))
    (pss_cons (ps_for PassesOwn.never rfl (pi_enumA K (by rfl) T.b_enumerate (pa_cons (pv 1) pa_nil)) (pgTup K (n := 2) rfl (pgs_cons (pg_name (i := 5) sc_window.nd rfl (Or.inl rfl)) (pgs_cons (pg_name (i := 6) sc_window.nd rfl (Or.inl rfl)) pgs_nil)))
      (pss_one (ps_expr (pe_bm PySem.F.plainAttrs_list PySem.F.slot_list_extend PySem.F.type_list_extend (mt_extend) (pv 4) (pa_cons (pe_slice (slL K) (pe_meth (pv 0) T.cf_Table.cl T.m_Table_part (ok_Table_part T) (hr.mono (by decide)) T.bd_Table_part .nil pass0 (pa_cons (pv 5) pa_nil)) po_none (po_some (pv 6))) pa_nil)))))
    (pss_one (ps_ret (pe_slice (slL K) (pe_callB (cr_sortA K hr.units) (by rfl) T.b_sorted (by decide +kernel) (pa_cons (pv 4) pa_nil)) (po_some (pv 2)) (po_some (pe_op op_add (pv 2) (pv 3))))))))))), ?_⟩
  refine enterD h fun M ds pre _ => ?_
  obtain ⟨P, ss, rs, as, sk, sz, rfl, hP, hP4, g, h5, hl, ha, k0, k1, z0, z1⟩ := pre
  have hz := g.sz
  refine do_seq (do_drop (ev_call (ea_cons (ev_var rfl (ea_nil ⟨⟨P, ss, rs, rfl, hP, hP4, g, h5⟩, fun _ _ => ?_⟩)))))
  refine do_seq (do_drop (ev_call (ea_cons (ev_var rfl (ea_cons (ev_tup (ea_cons (ev_prop (ev_var rfl ⟨_, rfl, ⟨P, ss, rs, rfl, hP, hP4, g⟩, fun d hd => ?_⟩)))))))))
  obtain rfl := parts_of hd
  refine ea_nil ⟨by simp, ea_cons (ev_int (ea_nil ⟨⟨as, [P], 99, rfl, by simp [hl], by omega, ha⟩, fun _ _ => ?_⟩))⟩
  refine do_seq (do_drop (ev_call (ea_cons (ev_var rfl (ea_cons (ev_var rfl (ea_nil ⟨⟨sk, sz, rfl, k0, k1, z0, z1⟩, fun _ _ => ?_⟩)))))))
  refine do_seq (do_own (en_lst (ea_nil ⟨by decide, fun p => ?_⟩)))
  refine do_seq ?_
  refine do_for (js := [5, 6]) (PX := fun l => l = numbered (as.map .int)) (it_enumT (ev_var rfl ⟨_, rfl, rfl⟩)) (fun l i δ => i ≤ as.length ∧ ∃ a b, δ = [.dat (.ins T.c_Table (tabF P ss rs)), .dat (.tup (as.map .int)), .dat (.int sk), .dat (.int sz), .own p (.lst (sentTo ss as i)), a, b]) (fun l e => ⟨Nat.zero_le _, .un, .un, rfl⟩) ?_ ?_
  · rintro l i d δ' rfl hi ⟨_, a, b, rfl⟩
    have hlt : i < (as.map D.int).length := by
      have := (List.getElem?_eq_some_iff.mp hi).1
      rwa [numbered_len] at this
    obtain ⟨x, hx, hrd⟩ := getInt (List.getElem?_eq_getElem hlt)
    have he := numbered_get (List.getElem?_eq_getElem hlt)
    rw [hi] at he
    obtain rfl := Option.some.inj he
    rw [hrd]
    rw [List.length_map] at hlt
    refine tg_tup rfl (tgs_cons (js := [5]) (ks := [6]) (tg_name (tgs_cons (js := [6]) (ks := []) (tg_name (tgs_nil ?_)))))
    refine do_extend (i := 4) (p := p) (ds := sentTo ss as i) rfl (EvN.ev (en_slL (EvN.ev (en_meth (ev_var rfl ⟨_, rfl, tab_no (by decide) (by decide) (by decide), ea_cons (ev_var rfl (ea_nil ⟨⟨P, ss, rs, (i : Int), rfl, hP, hP4, g, by omega, by omega⟩, fun es he => ?_⟩))⟩)))))
    obtain rfl := part_of he
    refine eo_none (eo_some (ev_var rfl ⟨x, rfl, _, rfl, _, rfl, ?_, hlt, .dat (.int (i : Int)), .dat (.int x), ?_⟩))
    · have h1 := sentTo_len ss as i
      have h2 := piece_len ss (i : Int) (some x)
      have h3 : i * ss.length ≤ 4 * 300 := Nat.mul_le_mul (by omega) hz
      omega
    · rw [sentTo_succ]
      have : as.getD i 0 = x := by simp [List.getD, hx]
      rw [this]
      rfl
  · rintro l δ' rfl ⟨_, a, b, rfl⟩
    rw [numbered_len, List.length_map]
    refine do_freeze (i := 4) rfl (do_ret (EvN.ev (en_slL (EvN.ev (en_sorted (ev_var rfl ⟨_, .inl rfl, (sentTo_pl ss as _).sortOk, ?_⟩))))))
    refine eo_some (ev_var rfl ⟨sk, rfl, eo_some (ev_op (ev_var (d := .int sk) rfl (ev_var (d := .int sz) rfl (od_int ⟨_, rfl, _, rfl, ?_⟩))))⟩)
    exact ⟨P, ss, rs, as, sk, sz, rfl, rfl⟩

end Pf

namespace Pf
open PySem L2 RZ
local macro_rules | `(tactic| walk_at "ev") => `(tactic| first
  | ((with_reducible refine' ev_var ?h ?_); (case h => rfl))
  | with_reducible refine ev_int ?_
  | with_reducible refine ev_bl ?_
  | with_reducible refine ev_str ?_
  | with_reducible refine ev_non ?_
  | with_reducible refine ev_ty ?_
  | with_reducible refine ev_op ?_
  | with_reducible refine ev_un ?_
  | with_reducible refine ev_chain ?_
  | with_reducible refine ev_if ?_
  | with_reducible refine ev_and ?_
  | with_reducible refine ev_or ?_
  | with_reducible refine ev_not ?_
  | with_reducible refine ev_lst ?_
  | with_reducible refine ev_tup ?_
  | with_reducible refine ea_nil ?_
  | with_reducible refine ea_cons ?_
  | with_reducible refine ev_cb ?_
  | with_reducible refine et_test ?_
  | with_reducible refine et_B ?_
  | with_reducible refine et_and ?_
  | with_reducible refine et_or ?_
  | with_reducible refine et_not ?_
  | with_reducible refine et_yes ?_
  | with_reducible refine eo_none ?_
  | with_reducible refine eo_some ?_
  | with_reducible refine ev_slS ?_
  | with_reducible refine od_int ?_
  | with_reducible refine od_bl ?_
  | with_reducible refine od_eq_int ?_
  | with_reducible refine od_ne_int ?_
  | with_reducible refine od_eq_bl ?_
  | with_reducible refine od_ne_bl ?_
  | with_reducible refine od_eq_str ?_
  | with_reducible refine od_ne_str ?_
  | with_reducible refine od_leS ?_
  | with_reducible refine ud_isN ?_
  | with_reducible refine ud_notN ?_
  | with_reducible refine do_seq ?_
  | with_reducible refine do_set ?_
  | with_reducible refine do_ret ?_
  | with_reducible refine do_retN ?_
  | with_reducible refine do_if ?_
  | with_reducible refine do_next ?_
  | with_reducible refine tg_name ?_
  | with_reducible refine tgs_nil ?_
  | with_reducible refine tgs_cons ?_)
def preTb : List D → Prop := fun ds => ∃ (P : Int) (rs : List Row), ds = [.int P, .lst (rowsD rs)] ∧ 1 ≤ P ∧ P ≤ 4 ∧ GoodRows P rs
def postTb (c : Addr) : List D → D → Prop := fun ds d => ∃ (P : Int) (rs : List Row), ds = [.int P, .lst (rowsD rs)] ∧ d = .ins c (tabF P (sortR rs) rs)
theorem ok_table {P : Program} {w : World} {K : PySem.W.Frag} {mg : Str → Option Value} {base : Heap} (T : Txt K mg) : FnOk P w K mg base CX0 12 T.f_table T.fd_table ["_law_parts", "_law_rows_here"] (spD K preTb (postTb T.c_Table)) := by
  refine T.F_table.ok sc_table (spD_len fun ds ⟨P, rs, e, _⟩ => by rw [e]; rfl) (fun cdv A outer s H vs Q E hr h => ?_)
  refine ⟨_, (pss_one (ps_ret (pe_make T.mk_Table (ok_Table_init T) (hr.mono (by decide)) rfl T.g_Table T.bd_Table_init .nil pass0 (pa_cons (pv 0) (pa_cons (pe_callTy (callList K) (by rfl) T.b_list (by decide +kernel) (pa_cons (pv 1) pa_nil)) pa_nil))))), ?_⟩
  refine enterD h fun M ds pre _ => ?_
  obtain ⟨P, rs, rfl, h1, h4, g⟩ := pre
  exact do_ret (ev_table h1 h4 (ea_cons (ev_var rfl (ea_cons (EvN.ev (en_listOf (ev_var rfl ⟨_, .inl rfl, ea_nil ⟨rs, rfl, g, P, rs, rfl, rfl⟩⟩)))))))
theorem win_of {c : Addr} {P : Int} {ss rs : List Row} {as : List Int} {sk sz : Int} {d : D} (h : postWin c [.ins c (tabF P ss rs), .tup (as.map .int), .int sk, .int sz] d) : d = .lst (winD ss as sk sz) := by
  obtain ⟨P', ss', rs', as', sk', sz', e, rfl⟩ := h
  obtain ⟨e1, e2⟩ := List.cons.inj e
  obtain ⟨rfl, rfl⟩ := tab_inj e1
  obtain ⟨e3, e4⟩ := List.cons.inj e2
  have ea : as = as' := by
    have hm := congrArg (List.map fun d => match d with | D.int i => i | _ => 0) (D.tup.inj e3)
    simpa [List.map_map, Function.comp_def] using hm
  subst ea
  obtain ⟨e5, e6⟩ := List.cons.inj e4
  obtain rfl := D.int.inj e5
  obtain rfl := D.int.inj (List.cons.inj e6).1
  rfl
theorem win_pl (ss : List Row) (as : List Int) (sk sz : Int) : AllPl (winD ss as sk sz) := (sentTo_pl ss as _).sort.cut
theorem ok_law {P : Program} {w : World} {K : PySem.W.Frag} {mg : Str → Option Value} {base : Heap} (T : Txt K mg) : FnOk P w K mg base CX0 18 T.f_law T.fd_law ["_law_script"] (spLaw K) := by
  refine T.F_law.ok sc_law (fun vs H Q E h => ?_) (fun cdv A outer s H vs Q E hr h => ?_)
  · obtain ⟨a, ns, rfl, _⟩ := h
    rfl
  refine ⟨_, (pss_cons (ps_set (i := 1) sc_law.nd rfl (Or.inr rfl) (pe_call (ok_open T) (hr.mono (by decide)) rfl T.g_open T.k_open T.bd_open .nil pass0 (pa_cons (pv 0) pa_nil)))
    (pss_cons (ps_for PassesOwn.never rfl (pi_range1 (by rfl) T.b_range (pa_cons pe_int pa_nil)) (pg_name (i := 2) sc_law.nd rfl (Or.inl rfl))
      (pss_cons (ps_set (i := 3) sc_law.nd rfl (Or.inl rfl) (pe_op op_add pe_int (pe_call (ok_draw T) (hr.mono (by decide)) rfl T.g_draw T.k_draw T.bd_draw .nil pass0 (pa_cons (pv 1) (pa_cons pe_int pa_nil)))))
      (pss_cons (ps_set (i := 4) sc_law.nd rfl (Or.inl rfl) (pe_call (ok_rows T) (hr.mono (by decide)) rfl T.g_rows T.k_rows T.bd_rows .nil pass0 (pa_cons (pv 1) (pa_cons (pv 3) (pa_cons (pe_call (ok_draw T) (hr.mono (by decide)) rfl T.g_draw T.k_draw T.bd_draw .nil pass0 (pa_cons (pv 1) (pa_cons pe_int pa_nil))) (pa_cons pe_bl pa_nil))))))
      (pss_cons (ps_set (i := 5) sc_law.nd rfl (Or.inl rfl) (pe_callTy (callTuple K) (by rfl) T.b_tuple (by decide +kernel) (pa_cons (pe_lc (own := [("_law_part", 9)]) rfl sc_law.nd (pi_range1 (by rfl) T.b_range (pa_cons (pv 3) pa_nil)) (blkOk_by (N := N_law) (sc := defScope s_law) (by decide +kernel)) (fun _ _ _ _ _ => (pg_name (i := 9) sc_law.nd rfl (Or.inl rfl))) (fun _ _ _ _ _ => pts_nil) (fun _ _ _ _ _ => (pe_op op_add pe_int (pe_call (ok_of T) (hr.mono (by decide)) rfl T.g_of T.k_of T.bd_of .nil pass0 (pa_cons (pv 1) (pa_cons (pe_lst (pa_cons pe_int (pa_cons pe_int (pa_cons pe_int (pa_cons (pe_call (ok_draw T) (hr.mono (by decide)) rfl T.g_draw T.k_draw T.bd_draw .nil pass0 (pa_cons (pv 1) (pa_cons pe_int pa_nil))) pa_nil))))) pa_nil)))))) pa_nil)))
      (pss_cons (ps_par (i := 6) (j := 7) rfl sc_law.nd rfl rfl (by decide) rfl rfl (pa_cons (pe_call (ok_of T) (hr.mono (by decide)) rfl T.g_of T.k_of T.bd_of .nil pass0 (pa_cons (pv 1) (pa_cons (pe_lst (pa_cons pe_int (pa_cons pe_int (pa_cons (pe_call (ok_draw T) (hr.mono (by decide)) rfl T.g_draw T.k_draw T.bd_draw .nil pass0 (pa_cons (pv 1) (pa_cons pe_int pa_nil))) pa_nil)))) pa_nil))) (pa_cons (pe_call (ok_of T) (hr.mono (by decide)) rfl T.g_of T.k_of T.bd_of .nil pass0 (pa_cons (pv 1) (pa_cons (pe_lst (pa_cons pe_int (pa_cons pe_int (pa_cons pe_int (pa_cons (pe_call (ok_draw T) (hr.mono (by decide)) rfl T.g_draw T.k_draw T.bd_draw .nil pass0 (pa_cons (pv 1) (pa_cons pe_int pa_nil))) pa_nil))))) pa_nil))) pa_nil)) rfl)
      (pss_cons (ps_set (i := 8) sc_law.nd rfl (Or.inl rfl) (pe_lst pa_nil))
      (pss_cons (ps_for PassesOwn.never rfl (pi_range1 (by rfl) T.b_range (pa_cons (pv 3) pa_nil)) (pg_name (i := 9) sc_law.nd rfl (Or.inr rfl))
        (pss_one (ps_set (i := 8) sc_law.nd rfl (Or.inl rfl) (pe_op op_cat (pv 8) (pe_slice (slL K) (pe_callB (cr_sortA K hr.units) (by rfl) T.b_sorted (by decide +kernel) (pa_cons (pe_lc (own := [("_law_row", 13)]) rfl sc_law.nd (piL K (pv 4)) (blkOk_by (N := N_law) (sc := defScope s_law) (by decide +kernel)) (fun _ _ _ _ _ => (pg_name (i := 13) sc_law.nd rfl (Or.inl rfl))) (fun _ _ _ _ _ => (pts_one (pt_cmpR (opIn K) (pv 9) (pe_ix (ixT K) (pv 13) pe_int (fun _ _ => rfl)) (by with_unfolding_all rfl)))) (fun _ _ _ _ _ => (pe_slice (slT K) (pv 13) po_none (po_some pe_int)))) pa_nil)) po_none (po_some (pe_ix (ixT K) (pv 5) (pv 9) (fun _ _ => rfl))))))))
      (pss_cons (ps_set (i := 10) sc_law.nd rfl (Or.inl rfl) (pe_call (ok_table T) (hr.mono (by decide)) rfl T.g_table T.k_table T.bd_table .nil pass0 (pa_cons (pv 3) (pa_cons (pv 4) pa_nil))))
      (pss_cons (ps_set (i := 11) sc_law.nd rfl (Or.inl rfl) (pe_lst (pa_cons (pe_call (ok_window T) (hr.mono (by decide)) rfl T.g_window T.k_window T.bd_window .nil pass0 (pa_cons (pv 10) (pa_cons (pv 5) (pa_cons (pv 6) (pa_cons (pv 7) pa_nil))))) (pa_cons (pe_callK0 (ok_window T) (hr.mono (by decide)) rfl T.g_window T.k_window (kb_window_size_skip_asks_table T) pass0 (pk_cons (pv 7) (pk_cons (pv 6) (pk_cons (pv 5) (pk_cons (pv 10) pk_nil))))) pa_nil))))
      (pss_cons (ps_set (i := 12) sc_law.nd rfl (Or.inl rfl) (pe_slice (slL K) (pe_callB (cr_sortA K hr.units) (by rfl) T.b_sorted (by decide +kernel) (pa_cons (pv 8) pa_nil)) (po_some (pv 6)) (po_some (pe_op op_add (pv 6) (pv 7)))))
      (pss_one (ps_if (PW.pt (pw_or (pt_not (pt_val (pe_call (ok_like T 4) (hr.mono (by decide)) rfl T.g_like T.k_like T.bd_like .nil pass0 (pa_cons (pv 11) (pa_cons (pe_lst (pa_cons (pv 12) (pa_cons (pv 12) pa_nil))) pa_nil))))) (pw_or1 (pt_not (pt_val (pe_call (ok_like T 4) (hr.mono (by decide)) rfl T.g_like T.k_like T.bd_like .nil pass0 (pa_cons (pe_meth0 (pv 10) T.cf_Table.cl T.m_Table_rows (ok_Table_rows T) (hr.mono (by decide)) T.bd_Table_rows .nil pass0) (pa_cons (pe_callB (cr_sortA K hr.units) (by rfl) T.b_sorted (by decide +kernel) (pa_cons (pv 4) pa_nil)) pa_nil)))))))) (pss_one (ps_ret pe_bl)) pss_nil))))))))))))
    (pss_one (ps_ret pe_bl)))), ?_⟩
  refine lawIn h (by decide) fun b c H1 M0 E => ?_
  refine do_seq (do_for (js := [2]) (PX := fun l => l = upto 0 6) (it_range1 (ea_cons (ev_int (ea_nil ⟨6, rfl, by decide, by decide, rfl⟩)))) (fun _ _ δ => δ = slotsL N_law) (fun _ _ => rfl) ?_ ?_)
  · rintro l i x δ rfl hi rfl
    refine tg_name ?_
    refine do_wk [2, 3, 4, 5, 6, 7, 8, 9, 10, 11, 12] ?_
    refine do_seq (do_set (ev_op (ev_int (ev_draw rfl rfl (ea_cons (ev_int (ea_nil ⟨4, rfl, by decide, by decide, fun r r0 r1 => od_int ?_⟩)))))))
    have hP : 1 ≤ 1 + r := by omega
    have hP4 : 1 + r ≤ 4 := by omega
    generalize 1 + r = P at hP hP4 ⊢
    clear r0 r1
    refine do_seq (do_set (ev_callB rfl rfl (ea_cons (ev_var rfl (ea_cons (ev_draw rfl rfl (ea_cons (ev_int (ea_nil ⟨15, rfl, by decide, by decide, fun m m0 m1 => ?_⟩)))))))))
    refine ea_cons (ev_bl (ea_nil ⟨⟨P, m, false, rfl, hP, hP4, m0, by omega⟩, fun d hd => ?_⟩))
    obtain ⟨P', m', cp', rs, e, rfl, hl, L, hc⟩ := hd
    cases e
    have hone := hc rfl
    have gs := L.g.sort
    have hz0 := L.g.sz
    have hlen : (sortR rs).length = rs.length := (sortR_perm rs).length_eq
    have hones : ∀ r ∈ sortR rs, r.2.2.length = 1 := fun r hr => hone r ((sortR_perm rs).mem_iff.mp hr)
    -- asks
    refine do_seq (do_set (ev_cb (ea_cons (EvN.ev ?_))))
    refine en_lc (js := [9]) (PX := fun l => l = upto 0 P.toNat) (it_range1 (ea_cons (ev_var rfl (ea_nil ⟨P, rfl, by omega, by omega, rfl⟩)))) (fun l e => by rw [e, upto_len]; omega) (by decide) (fun l i acc => ∃ as : List Int, acc = as.map D.int ∧ as.length = i ∧ ∀ a ∈ as, 1 ≤ a ∧ a ≤ 99) (fun l e => ⟨[], rfl, rfl, fun a h => nomatch h⟩) ?_ ?_
    · rintro l i d acc rfl hi ⟨as, rfl, hl', ha⟩
      obtain ⟨hlt, rfl⟩ := upto_get hi
      refine tg_name (et_yes ⟨fun _ => ?_, fun h => nomatch h⟩)
      refine ev_op (ev_int (ev_ofL rfl rfl (ea_cons (ev_lst (ea_cons (ev_int (ea_cons (ev_int (ea_cons (ev_int (ea_cons (ev_draw rfl rfl (ea_cons (ev_int (ea_nil ⟨99, rfl, by decide, by decide, fun r r0 r1 => ?_⟩)))))))))))))))
      refine ea_nil ⟨by simp, ea_nil ⟨_, rfl, by simp, by simp, fun d hd => ?_⟩⟩
      obtain ⟨k, rfl, k0, k1⟩ : ∃ k : Int, d = .int k ∧ 0 ≤ k ∧ k ≤ 98 := by
        simp only [List.mem_cons, List.not_mem_nil, or_false] at hd
        rcases hd with rfl | rfl | rfl | rfl
        · exact ⟨_, rfl, by decide, by decide⟩
        · exact ⟨_, rfl, by decide, by decide⟩
        · exact ⟨_, rfl, by decide, by decide⟩
        · exact ⟨_, rfl, r0, by omega⟩
      refine od_int ⟨as ++ [1 + k], by simp, by simp [hl'], fun a ha' => ?_⟩
      rcases List.mem_append.mp ha' with h | h
      · exact ha a h
      · rw [List.mem_singleton.mp h]
        omega
    rintro l ds rfl ⟨as, rfl, hal, ha⟩
    rw [upto_len] at hal
    refine ea_nil (cd_tupL ?_)
    -- skip, size
    refine do_seq (do_par2 (ev_ofL rfl rfl (ea_cons (ev_lst (ea_cons (ev_int (ea_cons (ev_int (ea_cons (ev_draw rfl rfl (ea_cons (ev_int (ea_nil ⟨51, rfl, by decide, by decide, fun s s0 s1 => ?_⟩)))))))))))))
    refine ea_nil ⟨by simp, ea_nil ⟨_, rfl, by simp, by simp, fun d hd => ?_⟩⟩
    obtain ⟨sk, rfl, k0, k1⟩ : ∃ k : Int, d = .int k ∧ 0 ≤ k ∧ k ≤ 50 := by
      simp only [List.mem_cons, List.not_mem_nil, or_false] at hd
      rcases hd with rfl | rfl | rfl
      · exact ⟨_, rfl, by decide, by decide⟩
      · exact ⟨_, rfl, by decide, by decide⟩
      · exact ⟨_, rfl, s0, by omega⟩
    clear hd
    refine ev_ofL rfl rfl (ea_cons (ev_lst (ea_cons (ev_int (ea_cons (ev_int (ea_cons (ev_int (ea_cons (ev_draw rfl rfl (ea_cons (ev_int (ea_nil ⟨51, rfl, by decide, by decide, fun t t0 t1 => ?_⟩)))))))))))))
    refine ea_nil ⟨by simp, ea_nil ⟨_, rfl, by simp, by simp, fun d hd => ?_⟩⟩
    obtain ⟨sz, rfl, z0, z1⟩ : ∃ k : Int, d = .int k ∧ 0 ≤ k ∧ k ≤ 50 := by
      simp only [List.mem_cons, List.not_mem_nil, or_false] at hd
      rcases hd with rfl | rfl | rfl | rfl
      · exact ⟨_, rfl, by decide, by decide⟩
      · exact ⟨_, rfl, by decide, by decide⟩
      · exact ⟨_, rfl, by decide, by decide⟩
      · exact ⟨_, rfl, t0, by omega⟩
    clear hd
    refine do_seq (do_set (EvN.ev (en_lst (ea_nil ⟨by decide, ?_⟩))))
    refine do_seq (do_for (js := [9]) (PX := fun l => l = upto 0 P.toNat) (it_range1 (ea_cons (ev_var rfl (ea_nil ⟨P, rfl, by omega, by omega, rfl⟩)))) (fun _ j δ => j ≤ as.length ∧ ∃ z, δ = [.un, .bag, .dat x, .dat (.int P), .dat (.lst (rowsD rs)), .dat (.tup (as.map .int)), .dat (.int sk), .dat (.int sz), .dat (.lst (sentTo (sortR rs) as j)), z, .un, .un, .un, .un]) (fun _ _ => ⟨Nat.zero_le _, .un, rfl⟩) ?_ ?_)
    · rintro l j d δ rfl hi ⟨_, z, rfl⟩
      obtain ⟨hlt, hd⟩ := upto_get hi
      rw [Int.zero_add] at hd
      subst hd
      have hlt' : j < as.length := by omega
      refine tg_name (do_set (ev_op (ev_var (d := .lst (sentTo (sortR rs) as j)) rfl (EvN.ev (en_slL (EvN.ev (en_sorted (EvN.ev ?_))))))))
      refine en_lc (js := [13]) (PX := fun l => l = rowsD rs) (it_list (ev_var rfl ⟨_, rfl, rfl⟩)) (fun l e => by rw [e, rowsD_len]; omega) (by decide) (fun l k acc => acc = (partR ((j : Nat) : Int) (rs.take k)).map placeD) (fun l e => rfl) ?_ ?_
      · rintro l k d acc rfl hk rfl
        obtain ⟨r, hr', rfl⟩ := rowsD_get hk
        refine tg_name (et_test (ev_op (ev_var rfl (ev_op (ev_var rfl (ev_int (od_ixT (d := .tup (r.2.2.map .int)) rfl (od_inInts (t := true) ⟨_, rfl, fun hb => ?_, fun hb => ?_⟩))))))))
        · refine ev_slT (ev_var rfl (eo_none (eo_some (ev_int ⟨2, rfl, _, rfl, not_whole _ _ _, ?_⟩))))
          have hb' : decide (((j : Nat) : Int) ∈ r.2.2) = true := by simpa using hb
          unfold partR
          rw [filter_snoc hr', hb', cut2]
          simp [placeD]
        · have hb' : decide (((j : Nat) : Int) ∈ r.2.2) = false := by simpa using hb
          unfold partR
          rw [filter_snoc hr', hb']
          simp
      rintro l ds rfl rfl
      rw [rowsD_len, List.take_length]
      refine ⟨_, .inl rfl, (allPl_rows _).sortOk, ?_⟩
      rw [part_sorted]
      have hat : atI (as.map D.int) (j : Int) = some (.int (as.getD j 0)) := atI_nat (by
        rw [List.getElem?_map]
        simp [List.getD, List.getElem?_eq_getElem hlt'])
      refine eo_none (eo_some (ev_op (ev_var (d := .tup (as.map .int)) rfl (ev_var (d := .int (j : Int)) rfl (od_ixT (d := .int (as.getD j 0)) hat ⟨_, rfl, _, rfl, od_cat ?_ ⟨hlt', .dat (.int (j : Int)), ?_⟩⟩)))))
      · have h1 := sentTo_len (sortR rs) as j
        have h2 := piece_len (sortR rs) (j : Int) (some (as.getD j 0))
        have h3 : j * (sortR rs).length ≤ 4 * 300 := Nat.mul_le_mul (by omega) (by omega)
        omega
      · rw [sentTo_succ]
        rfl
    rintro l δ rfl ⟨_, z, rfl⟩
    rw [upto_len, ← hal]
    refine do_seq (do_set (ev_call (ea_cons (ev_var rfl (ea_cons (ev_var rfl (ea_nil ⟨⟨P, rs, rfl, hP, hP4, L.g⟩, fun d hd => ?_⟩)))))))
    obtain ⟨P', rs', e, rfl⟩ := hd
    obtain ⟨e1, e2⟩ := List.cons.inj e
    obtain rfl := D.int.inj e1
    obtain rfl := rowsD_inj (D.lst.inj (List.cons.inj e2).1)
    clear e e1 e2
    have pre : preWin T.c_Table [.ins T.c_Table (tabF P (sortR rs) rs), .tup (as.map .int), .int sk, .int sz] := ⟨P, sortR rs, rs, as, sk, sz, rfl, hP, hP4, gs, hones, by omega, ha, k0, k1, z0, z1⟩
    refine do_let (.lst [.lst (winD (sortR rs) as sk sz), .lst (winD (sortR rs) as sk sz)]) (ev_lst ?_) ?_
    · refine ea_cons (ev_call (ea_cons (ev_var rfl (ea_cons (ev_var rfl (ea_cons (ev_var rfl (ea_cons (ev_var rfl (ea_nil ⟨pre, fun d hd => ?_⟩))))))))))
      obtain rfl := win_of hd
      refine ea_cons (ev_callK (krkb_window_size_skip_asks_table K) (ea_nil (ea_cons (ev_var rfl (ea_cons (ev_var rfl (ea_cons (ev_var rfl (ea_cons (ev_var rfl (ea_nil ⟨pre, fun d hd => ?_⟩)))))))))))
      obtain rfl := win_of hd
      exact ea_nil ⟨by simp, rfl⟩
    refine do_let (.lst (winD (sortR rs) as sk sz)) (EvN.ev (en_slL (EvN.ev (en_sorted (ev_var rfl ⟨_, .inl rfl, (sentTo_pl (sortR rs) as _).sortOk, ?_⟩))))) ?_
    · exact eo_some (ev_var rfl ⟨sk, rfl, eo_some (ev_op (ev_var (d := .int sk) rfl (ev_var (d := .int sz) rfl (od_int ⟨_, rfl, _, rfl, rfl⟩))))⟩)
    have wl := (win_pl (sortR rs) as sk sz).pl
    have wn : (winD (sortR rs) as sk sz).length ≤ 10000 := by
      have h1 : (winD (sortR rs) as sk sz).length ≤ (sortD (sentTo (sortR rs) as as.length)).length := cutD_length
      have h2 : (sortD (sentTo (sortR rs) as as.length)).length = (sentTo (sortR rs) as as.length).length := (List.mergeSort_perm _ _).length_eq
      have h3 := sentTo_len (sortR rs) as as.length
      have h4 : as.length * (sortR rs).length ≤ 4 * 300 := Nat.mul_le_mul (by omega) (by omega)
      omega
    have wd := (win_pl (sortR rs) as sk sz).dep
    have pl2 : plD (.lst [.lst (winD (sortR rs) as sk sz), .lst (winD (sortR rs) as sk sz)]) = true := by simp [plD, plL, wl, wn]
    have dp2 : dep (.lst [.lst (winD (sortR rs) as sk sz), .lst (winD (sortR rs) as sk sz)]) ≤ 4 := by
      have : depL [.lst (winD (sortR rs) as sk sz), .lst (winD (sortR rs) as sk sz)] ≤ 2 := depL_le fun x hx => by
        simp only [List.mem_cons, List.not_mem_nil, or_false] at hx
        rcases hx with rfl | rfl <;> exact wd
      simp only [dep]
      omega
    refine do_if (et_or (et_not (et_test (ev_like ?_))))
    refine ea_cons (ev_var rfl (ea_cons (ev_lst (ea_cons (ev_var rfl (ea_cons (ev_var rfl (ea_nil ⟨by simp, ea_nil ⟨_, _, rfl, pl2, pl2, dp2, _, rfl, ?_⟩⟩))))))))
    rw [show likeD (.lst [.lst (winD (sortR rs) as sk sz), .lst (winD (sortR rs) as sk sz)]) (.lst [.lst (winD (sortR rs) as sk sz), .lst (winD (sortR rs) as sk sz)]) = true from likeD_self _ pl2]
    refine ⟨fun _ => ?_, fun h => nomatch h⟩
    have plr : plD (.lst (rowsD (sortR rs))) = true := by
      simp only [plD, Bool.and_eq_true, decide_eq_true_eq]
      exact ⟨by rw [rowsD_len]; omega, pl_rows hP4 (by omega) gs.rw⟩
    refine et_not (et_test (ev_like (ea_cons (EvN.ev (en_meth (ev_var rfl ⟨_, rfl, tab_no (by decide) (by decide) (by decide), ea_nil ⟨⟨P, _, rs, rfl, hP, hP4, gs⟩, fun es he => ?_⟩⟩))))))
    obtain rfl := rows_of he
    refine ea_cons (EvN.ev (en_sorted (ev_var rfl ⟨_, .inl rfl, sortOk_rows rs, ?_⟩)))
    rw [sortD_rows]
    refine ea_nil ⟨_, _, rfl, plr, plr, by have := dep_rows (sortR rs); omega, _, rfl, ?_⟩
    rw [show likeD (.lst (rowsD (sortR rs))) (.lst (rowsD (sortR rs))) = true from likeD_self _ plr]
    exact ⟨(fun h => nomatch h), fun _ => do_next rfl⟩
  · rintro l δ rfl rfl
    exact do_ret (ev_bl rfl)
theorem all_mk {l : PySem.W.OpenLaw} {w : World} {K : PySem.W.Frag} {h : Heap} {mg : Str → Option Value} {fa : Addr} (X : K.In h) (G : h.Ns mainGlobals mg) (hfa : mg "law" = some (.ref fa))
    {t__MOST_KEY : Tok}
    {t_MOST_NUMBER_tables : Tok}
    {t__MOST_ASK : Tok}
    {t_MOST_NUMBER_windows : Tok}
    {c_Table : Addr}
    {p_Table_parts : Addr} {ps_Table_parts : List Value}
    {u_Table_MOST_PARTS : Tok}
    {u_Table_MOST_ROWS : Tok} {fn1 : Addr} {od1 an1 : Option Addr} {sl1 : Array (Option Value)} {oc1 kV1 dc1 pm1 cd1 ct1 : Value}
    {fn2 : Addr} {od2 an2 : Option Addr} {sl2 : Array (Option Value)} {oc2 kV2 dc2 pm2 cd2 ct2 : Value}
    {fn3 : Addr} {od3 an3 : Option Addr} {sl3 : Array (Option Value)} {oc3 kV3 dc3 pm3 cd3 ct3 : Value}
    {fn4 : Addr} {od4 an4 : Option Addr} {sl4 : Array (Option Value)} {oc4 kV4 dc4 pm4 cd4 ct4 : Value}
    {fn5 : Addr} {od5 an5 : Option Addr} {sl5 : Array (Option Value)} {oc5 kV5 dc5 pm5 cd5 ct5 : Value}
    {fn6 : Addr} {od6 an6 : Option Addr} {sl6 : Array (Option Value)} {oc6 kV6 dc6 pm6 cd6 ct6 : Value}
    {fn7 : Addr} {od7 an7 : Option Addr} {sl7 : Array (Option Value)} {oc7 kV7 dc7 pm7 cd7 ct7 : Value}
    {fn8 : Addr} {od8 an8 : Option Addr} {sl8 : Array (Option Value)} {oc8 kV8 dc8 pm8 cd8 ct8 : Value}
    {fn9 : Addr} {od9 an9 : Option Addr} {sl9 : Array (Option Value)} {oc9 kV9 dc9 pm9 cd9 ct9 : Value}
    {fn10 : Addr} {od10 an10 : Option Addr} {sl10 : Array (Option Value)} {oc10 kV10 dc10 pm10 cd10 ct10 : Value}
    {fn11 : Addr} {od11 an11 : Option Addr} {sl11 : Array (Option Value)} {oc11 kV11 dc11 pm11 cd11 ct11 : Value}
    {fn12 : Addr} {od12 an12 : Option Addr} {sl12 : Array (Option Value)} {oc12 kV12 dc12 pm12 cd12 ct12 : Value}
    {fn13 : Addr} {od13 an13 : Option Addr} {sl13 : Array (Option Value)} {oc13 kV13 dc13 pm13 cd13 ct13 : Value}
    {fn14 : Addr} {od14 an14 : Option Addr} {sl14 : Array (Option Value)} {oc14 kV14 dc14 pm14 cd14 ct14 : Value}
    {fn15 : Addr} {od15 an15 : Option Addr} {sl15 : Array (Option Value)} {oc15 kV15 dc15 pm15 cd15 ct15 : Value}
    {fn16 : Addr} {od16 an16 : Option Addr} {sl16 : Array (Option Value)} {oc16 kV16 dc16 pm16 cd16 ct16 : Value}
    {fn17 : Addr} {od17 an17 : Option Addr} {sl17 : Array (Option Value)} {oc17 kV17 dc17 pm17 cd17 ct17 : Value}
    {fn18 : Addr} {od18 an18 : Option Addr} {sl18 : Array (Option Value)} {oc18 kV18 dc18 pm18 cd18 ct18 : Value}
    {fn19 : Addr} {od19 an19 : Option Addr} {sl19 : Array (Option Value)} {oc19 kV19 dc19 pm19 cd19 ct19 : Value}
    {fn20 : Addr} {od20 an20 : Option Addr} {sl20 : Array (Option Value)} {oc20 kV20 dc20 pm20 cd20 ct20 : Value}
    {fn21 : Addr} {od21 an21 : Option Addr} {sl21 : Array (Option Value)} {oc21 kV21 dc21 pm21 cd21 ct21 : Value}
    {fn22 : Addr} {od22 an22 : Option Addr} {sl22 : Array (Option Value)} {oc22 kV22 dc22 pm22 cd22 ct22 : Value}
    {fn23 : Addr} {od23 an23 : Option Addr} {sl23 : Array (Option Value)} {oc23 kV23 dc23 pm23 cd23 ct23 : Value}
    {fn24 : Addr} {od24 an24 : Option Addr} {sl24 : Array (Option Value)} {oc24 kV24 dc24 pm24 cd24 ct24 : Value}
    {fn25 : Addr} {od25 an25 : Option Addr} {sl25 : Array (Option Value)} {oc25 kV25 dc25 pm25 cd25 ct25 : Value}
    {fn26 : Addr} {od26 an26 : Option Addr} {sl26 : Array (Option Value)} {oc26 kV26 dc26 pm26 cd26 ct26 : Value}
    {fn27 : Addr} {od27 an27 : Option Addr} {sl27 : Array (Option Value)} {oc27 kV27 dc27 pm27 cd27 ct27 : Value}
    {fn28 : Addr} {od28 an28 : Option Addr} {sl28 : Array (Option Value)} {oc28 kV28 dc28 pm28 cd28 ct28 : Value}
    {fn29 : Addr} {od29 an29 : Option Addr} {sl29 : Array (Option Value)} {oc29 kV29 dc29 pm29 cd29 ct29 : Value}
    {fn30 : Addr} {od30 an30 : Option Addr} {sl30 : Array (Option Value)} {oc30 kV30 dc30 pm30 cd30 ct30 : Value}
    {fn31 : Addr} {od31 an31 : Option Addr} {sl31 : Array (Option Value)} {oc31 kV31 dc31 pm31 cd31 ct31 : Value}
    (y_Table : PySem.W.nsIn K mainGlobals "Table" = some (some (.ref c_Table)))
    (a1 : PySem.W.nsIn K mainGlobals "is_whole" = some (some (.ref fn1)))
    (l1 : K.lookup fn1 = some ⟨oc1, od1, .func (PySem.W.fnOf "is_whole" "is_whole" (defArgs s_is_whole) (defBody s_is_whole) (defScope s_is_whole) .none kV1 dc1 pm1 an1 cd1 ct1), sl1⟩)
    (e1 : PySem.W.codeIn K cd1 "is_whole" = true)
    (k1 : PySem.W.keepIn K (.ref fn1) = true)
    (a2 : PySem.W.nsIn K mainGlobals "is_number" = some (some (.ref fn2)))
    (l2 : K.lookup fn2 = some ⟨oc2, od2, .func (PySem.W.fnOf "is_number" "is_number" (defArgs s_is_number) (defBody s_is_number) (defScope s_is_number) .none kV2 dc2 pm2 an2 cd2 ct2), sl2⟩)
    (e2 : PySem.W.codeIn K cd2 "is_number" = true)
    (k2 : PySem.W.keepIn K (.ref fn2) = true)
    (a3 : PySem.W.nsIn K mainGlobals "check_parts" = some (some (.ref fn3)))
    (l3 : K.lookup fn3 = some ⟨oc3, od3, .func (PySem.W.fnOf "check_parts" "check_parts" (defArgs s__check_parts) (defBody s__check_parts) (defScope s__check_parts) .none kV3 dc3 pm3 an3 cd3 ct3), sl3⟩)
    (e3 : PySem.W.codeIn K cd3 "check_parts" = true)
    (k3 : PySem.W.keepIn K (.ref fn3) = true)
    (a4 : PySem.W.nsIn K mainGlobals "check_part" = some (some (.ref fn4)))
    (l4 : K.lookup fn4 = some ⟨oc4, od4, .func (PySem.W.fnOf "check_part" "check_part" (defArgs s__check_part) (defBody s__check_part) (defScope s__check_part) .none kV4 dc4 pm4 an4 cd4 ct4), sl4⟩)
    (e4 : PySem.W.codeIn K cd4 "check_part" = true)
    (k4 : PySem.W.keepIn K (.ref fn4) = true)
    (a5 : PySem.W.nsIn K mainGlobals "_are_parts" = some (some (.ref fn5)))
    (l5 : K.lookup fn5 = some ⟨oc5, od5, .func (PySem.W.fnOf "_are_parts" "_are_parts" (defArgs s__are_parts) (defBody s__are_parts) (defScope s__are_parts) .none kV5 dc5 pm5 an5 cd5 ct5), sl5⟩)
    (e5 : PySem.W.codeIn K cd5 "_are_parts" = true)
    (k5 : PySem.W.keepIn K (.ref fn5) = true)
    (a6 : PySem.W.nsIn K mainGlobals "is_row" = some (some (.ref fn6)))
    (l6 : K.lookup fn6 = some ⟨oc6, od6, .func (PySem.W.fnOf "is_row" "is_row" (defArgs s__is_row) (defBody s__is_row) (defScope s__is_row) .none kV6 dc6 pm6 an6 cd6 ct6), sl6⟩)
    (e6 : PySem.W.codeIn K cd6 "is_row" = true)
    (k6 : PySem.W.keepIn K (.ref fn6) = true)
    (a7 : PySem.W.nsIn K mainGlobals "_rows_by_number" = some (some (.ref fn7)))
    (l7 : K.lookup fn7 = some ⟨oc7, od7, .func (PySem.W.fnOf "_rows_by_number" "_rows_by_number" (defArgs s__rows_by_number) (defBody s__rows_by_number) (defScope s__rows_by_number) .none kV7 dc7 pm7 an7 cd7 ct7), sl7⟩)
    (e7 : PySem.W.codeIn K cd7 "_rows_by_number" = true)
    (k7 : PySem.W.keepIn K (.ref fn7) = true)
    (a8 : PySem.W.findIn K (.ref c_Table) "__init__" = some (some (.ref fn8)))
    (l8 : K.lookup fn8 = some ⟨oc8, od8, .func (PySem.W.fnOf "__init__" "Table.__init__" (defArgs s_Table_init) (defBody s_Table_init) (defScope s_Table_init) .none kV8 dc8 pm8 an8 cd8 ct8), sl8⟩)
    (e8 : PySem.W.codeIn K cd8 "Table.__init__" = true)
    (k8 : PySem.W.keepIn K (.ref fn8) = true)
    (b9 : PySem.W.findIn K (.ref c_Table) "parts" = some (some (.ref p_Table_parts)))
    (a9 : PySem.W.recIn K p_Table_parts "property" = some (.ref fn9 :: ps_Table_parts))
    (l9 : K.lookup fn9 = some ⟨oc9, od9, .func (PySem.W.fnOf "parts" "Table.parts" (defArgs s_Table_parts) (defBody s_Table_parts) (defScope s_Table_parts) .none kV9 dc9 pm9 an9 cd9 ct9), sl9⟩)
    (e9 : PySem.W.codeIn K cd9 "Table.parts" = true)
    (k9 : PySem.W.keepIn K (.ref fn9) = true)
    (a10 : PySem.W.findIn K (.ref c_Table) "rows" = some (some (.ref fn10)))
    (l10 : K.lookup fn10 = some ⟨oc10, od10, .func (PySem.W.fnOf "rows" "Table.rows" (defArgs s_Table_rows) (defBody s_Table_rows) (defScope s_Table_rows) .none kV10 dc10 pm10 an10 cd10 ct10), sl10⟩)
    (e10 : PySem.W.codeIn K cd10 "Table.rows" = true)
    (k10 : PySem.W.keepIn K (.ref fn10) = true)
    (a11 : PySem.W.findIn K (.ref c_Table) "places" = some (some (.ref fn11)))
    (l11 : K.lookup fn11 = some ⟨oc11, od11, .func (PySem.W.fnOf "places" "Table.places" (defArgs s_Table_places) (defBody s_Table_places) (defScope s_Table_places) .none kV11 dc11 pm11 an11 cd11 ct11), sl11⟩)
    (e11 : PySem.W.codeIn K cd11 "Table.places" = true)
    (k11 : PySem.W.keepIn K (.ref fn11) = true)
    (a12 : PySem.W.findIn K (.ref c_Table) "part" = some (some (.ref fn12)))
    (l12 : K.lookup fn12 = some ⟨oc12, od12, .func (PySem.W.fnOf "part" "Table.part" (defArgs s_Table_part) (defBody s_Table_part) (defScope s_Table_part) .none kV12 dc12 pm12 an12 cd12 ct12), sl12⟩)
    (e12 : PySem.W.codeIn K cd12 "Table.part" = true)
    (k12 : PySem.W.keepIn K (.ref fn12) = true)
    (a13 : PySem.W.findIn K (.ref c_Table) "__len__" = some (some (.ref fn13)))
    (l13 : K.lookup fn13 = some ⟨oc13, od13, .func (PySem.W.fnOf "__len__" "Table.__len__" (defArgs s_Table_len) (defBody s_Table_len) (defScope s_Table_len) .none kV13 dc13 pm13 an13 cd13 ct13), sl13⟩)
    (e13 : PySem.W.codeIn K cd13 "Table.__len__" = true)
    (k13 : PySem.W.keepIn K (.ref fn13) = true)
    (a14 : PySem.W.findIn K (.ref c_Table) "__bool__" = some (some (.ref fn14)))
    (l14 : K.lookup fn14 = some ⟨oc14, od14, .func (PySem.W.fnOf "__bool__" "Table.__bool__" (defArgs s_Table_bool) (defBody s_Table_bool) (defScope s_Table_bool) .none kV14 dc14 pm14 an14 cd14 ct14), sl14⟩)
    (e14 : PySem.W.codeIn K cd14 "Table.__bool__" = true)
    (k14 : PySem.W.keepIn K (.ref fn14) = true)
    (a15 : PySem.W.findIn K (.ref c_Table) "__eq__" = some (some (.ref fn15)))
    (l15 : K.lookup fn15 = some ⟨oc15, od15, .func (PySem.W.fnOf "__eq__" "Table.__eq__" (defArgs s_Table_eq) (defBody s_Table_eq) (defScope s_Table_eq) .none kV15 dc15 pm15 an15 cd15 ct15), sl15⟩)
    (e15 : PySem.W.codeIn K cd15 "Table.__eq__" = true)
    (k15 : PySem.W.keepIn K (.ref fn15) = true)
    (a16 : PySem.W.findIn K (.ref c_Table) "__repr__" = some (some (.ref fn16)))
    (l16 : K.lookup fn16 = some ⟨oc16, od16, .func (PySem.W.fnOf "__repr__" "Table.__repr__" (defArgs s_Table_repr) (defBody s_Table_repr) (defScope s_Table_repr) .none kV16 dc16 pm16 an16 cd16 ct16), sl16⟩)
    (e16 : PySem.W.codeIn K cd16 "Table.__repr__" = true)
    (k16 : PySem.W.keepIn K (.ref fn16) = true)
    (a17 : PySem.W.nsIn K mainGlobals "check_plain" = some (some (.ref fn17)))
    (l17 : K.lookup fn17 = some ⟨oc17, od17, .func (PySem.W.fnOf "check_plain" "check_plain" (defArgs s_check_plain) (defBody s_check_plain) (defScope s_check_plain) .none kV17 dc17 pm17 an17 cd17 ct17), sl17⟩)
    (e17 : PySem.W.codeIn K cd17 "check_plain" = true)
    (k17 : PySem.W.keepIn K (.ref fn17) = true)
    (a18 : PySem.W.nsIn K mainGlobals "check_asks" = some (some (.ref fn18)))
    (l18 : K.lookup fn18 = some ⟨oc18, od18, .func (PySem.W.fnOf "check_asks" "check_asks" (defArgs s_check_asks) (defBody s_check_asks) (defScope s_check_asks) .none kV18 dc18 pm18 an18 cd18 ct18), sl18⟩)
    (e18 : PySem.W.codeIn K cd18 "check_asks" = true)
    (k18 : PySem.W.keepIn K (.ref fn18) = true)
    (a19 : PySem.W.nsIn K mainGlobals "_check_numbers" = some (some (.ref fn19)))
    (l19 : K.lookup fn19 = some ⟨oc19, od19, .func (PySem.W.fnOf "_check_numbers" "_check_numbers" (defArgs s__check_numbers) (defBody s__check_numbers) (defScope s__check_numbers) .none kV19 dc19 pm19 an19 cd19 ct19), sl19⟩)
    (e19 : PySem.W.codeIn K cd19 "_check_numbers" = true)
    (k19 : PySem.W.keepIn K (.ref fn19) = true)
    (a20 : PySem.W.nsIn K mainGlobals "window" = some (some (.ref fn20)))
    (l20 : K.lookup fn20 = some ⟨oc20, od20, .func (PySem.W.fnOf "window" "window" (defArgs s_window) (defBody s_window) (defScope s_window) .none kV20 dc20 pm20 an20 cd20 ct20), sl20⟩)
    (e20 : PySem.W.codeIn K cd20 "window" = true)
    (k20 : PySem.W.keepIn K (.ref fn20) = true)
    (a21 : PySem.W.nsIn K mainGlobals "_law_open" = some (some (.ref fn21)))
    (l21 : K.lookup fn21 = some ⟨oc21, od21, .func (PySem.W.fnOf "_law_open" "_law_open" (defArgs s_open) (defBody s_open) (defScope s_open) .none kV21 dc21 pm21 an21 cd21 ct21), sl21⟩)
    (e21 : PySem.W.codeIn K cd21 "_law_open" = true)
    (k21 : PySem.W.keepIn K (.ref fn21) = true)
    (a22 : PySem.W.nsIn K mainGlobals "_law_draw" = some (some (.ref fn22)))
    (l22 : K.lookup fn22 = some ⟨oc22, od22, .func (PySem.W.fnOf "_law_draw" "_law_draw" (defArgs s_draw) (defBody s_draw) (defScope s_draw) .none kV22 dc22 pm22 an22 cd22 ct22), sl22⟩)
    (e22 : PySem.W.codeIn K cd22 "_law_draw" = true)
    (k22 : PySem.W.keepIn K (.ref fn22) = true)
    (a23 : PySem.W.nsIn K mainGlobals "_law_of" = some (some (.ref fn23)))
    (l23 : K.lookup fn23 = some ⟨oc23, od23, .func (PySem.W.fnOf "_law_of" "_law_of" (defArgs s_of) (defBody s_of) (defScope s_of) .none kV23 dc23 pm23 an23 cd23 ct23), sl23⟩)
    (e23 : PySem.W.codeIn K cd23 "_law_of" = true)
    (k23 : PySem.W.keepIn K (.ref fn23) = true)
    (a24 : PySem.W.nsIn K mainGlobals "_law_mixed" = some (some (.ref fn24)))
    (l24 : K.lookup fn24 = some ⟨oc24, od24, .func (PySem.W.fnOf "_law_mixed" "_law_mixed" (defArgs s_mixed) (defBody s_mixed) (defScope s_mixed) .none kV24 dc24 pm24 an24 cd24 ct24), sl24⟩)
    (e24 : PySem.W.codeIn K cd24 "_law_mixed" = true)
    (k24 : PySem.W.keepIn K (.ref fn24) = true)
    (a25 : PySem.W.nsIn K mainGlobals "_law_like" = some (some (.ref fn25)))
    (l25 : K.lookup fn25 = some ⟨oc25, od25, .func (PySem.W.fnOf "_law_like" "_law_like" (defArgs s_like) (defBody s_like) (defScope s_like) .none kV25 dc25 pm25 an25 cd25 ct25), sl25⟩)
    (e25 : PySem.W.codeIn K cd25 "_law_like" = true)
    (k25 : PySem.W.keepIn K (.ref fn25) = true)
    (a26 : PySem.W.nsIn K mainGlobals "_law_numbers" = some (some (.ref fn26)))
    (l26 : K.lookup fn26 = some ⟨oc26, od26, .func (PySem.W.fnOf "_law_numbers" "_law_numbers" (defArgs s_numbers) (defBody s_numbers) (defScope s_numbers) .none kV26 dc26 pm26 an26 cd26 ct26), sl26⟩)
    (e26 : PySem.W.codeIn K cd26 "_law_numbers" = true)
    (k26 : PySem.W.keepIn K (.ref fn26) = true)
    (a27 : PySem.W.nsIn K mainGlobals "_law_base" = some (some (.ref fn27)))
    (l27 : K.lookup fn27 = some ⟨oc27, od27, .func (PySem.W.fnOf "_law_base" "_law_base" (defArgs s_base) (defBody s_base) (defScope s_base) .none kV27 dc27 pm27 an27 cd27 ct27), sl27⟩)
    (e27 : PySem.W.codeIn K cd27 "_law_base" = true)
    (k27 : PySem.W.keepIn K (.ref fn27) = true)
    (a28 : PySem.W.nsIn K mainGlobals "_law_some_parts" = some (some (.ref fn28)))
    (l28 : K.lookup fn28 = some ⟨oc28, od28, .func (PySem.W.fnOf "_law_some_parts" "_law_some_parts" (defArgs s_some_parts) (defBody s_some_parts) (defScope s_some_parts) .none kV28 dc28 pm28 an28 cd28 ct28), sl28⟩)
    (e28 : PySem.W.codeIn K cd28 "_law_some_parts" = true)
    (k28 : PySem.W.keepIn K (.ref fn28) = true)
    (a29 : PySem.W.nsIn K mainGlobals "_law_rows" = some (some (.ref fn29)))
    (l29 : K.lookup fn29 = some ⟨oc29, od29, .func (PySem.W.fnOf "_law_rows" "_law_rows" (defArgs s_rows) (defBody s_rows) (defScope s_rows) .none kV29 dc29 pm29 an29 cd29 ct29), sl29⟩)
    (e29 : PySem.W.codeIn K cd29 "_law_rows" = true)
    (k29 : PySem.W.keepIn K (.ref fn29) = true)
    (a30 : PySem.W.nsIn K mainGlobals "_law_table" = some (some (.ref fn30)))
    (l30 : K.lookup fn30 = some ⟨oc30, od30, .func (PySem.W.fnOf "_law_table" "_law_table" (defArgs s_table) (defBody s_table) (defScope s_table) .none kV30 dc30 pm30 an30 cd30 ct30), sl30⟩)
    (e30 : PySem.W.codeIn K cd30 "_law_table" = true)
    (k30 : PySem.W.keepIn K (.ref fn30) = true)
    (a31 : PySem.W.nsIn K mainGlobals "law" = some (some (.ref fn31)))
    (l31 : K.lookup fn31 = some ⟨oc31, od31, .func (PySem.W.fnOf "law" "law" (defArgs s_law) (defBody s_law) (defScope s_law) .none kV31 dc31 pm31 an31 cd31 ct31), sl31⟩)
    (e31 : PySem.W.codeIn K cd31 "law" = true)
    (k31 : PySem.W.keepIn K (.ref fn31) = true)
    (z1 : PySem.W.nsIn K mainGlobals "all" = some none)
    (z2 : PySem.W.nsIn K mainGlobals "bool" = some none)
    (z3 : PySem.W.nsIn K mainGlobals "enumerate" = some none)
    (z4 : PySem.W.nsIn K mainGlobals "int" = some none)
    (z5 : PySem.W.nsIn K mainGlobals "isinstance" = some none)
    (z6 : PySem.W.nsIn K mainGlobals "len" = some none)
    (z7 : PySem.W.nsIn K mainGlobals "list" = some none)
    (z8 : PySem.W.nsIn K mainGlobals "range" = some none)
    (z9 : PySem.W.nsIn K mainGlobals "sorted" = some none)
    (z10 : PySem.W.nsIn K mainGlobals "str" = some none)
    (z11 : PySem.W.nsIn K mainGlobals "tuple" = some none)
    (z12 : PySem.W.nsIn K mainGlobals "zip" = some none)
    (x1 : PySem.W.nsIn K mainGlobals "_MOST_KEY" = some (some (.int 1000000000 t__MOST_KEY)))
    (x2 : PySem.W.nsIn K mainGlobals "MOST_NUMBER_tables" = some (some (.int 1000000000 t_MOST_NUMBER_tables)))
    (x3 : PySem.W.nsIn K mainGlobals "_MOST_ASK" = some (some (.int 99 t__MOST_ASK)))
    (x4 : PySem.W.nsIn K mainGlobals "MOST_NUMBER_windows" = some (some (.int 50 t_MOST_NUMBER_windows)))
    (x5 : PySem.W.plainGet K c_Table Str.empty = true)
    (x6 : PySem.W.hasDictIn K c_Table = true)
    (x7 : PySem.W.plainOver K c_Table = true)
    (x8 : PySem.W.findIn K (.ref c_Table) "__setattr__" = some (some (.builtin "object.__setattr__")))
    (x9 : PySem.W.findIn K (.ref c_Table) "__class__" = some (some (.builtin "object.__class__")))
    (x10 : PySem.W.specialIn K (.builtin "object.__class__") "__get__" = some (some (.builtin "getset_descriptor.__get__")))
    (x11 : PySem.W.takesIn K (.builtin "object.__class__") = some true)
    (x12 : PySem.W.mroIn K c_Table (.type "object") = some true)
    (x13 : PySem.W.makesIn K c_Table = true)
    (x14 : PySem.W.findIn K (.ref c_Table) "__init__" = some (some (.ref fn8)))
    (x15 : PySem.W.isFn K (.ref fn8) = true)
    (x16 : PySem.W.keepIn K (.ref c_Table) = true)
    (x17 : PySem.W.isFn K (.ref fn10) = true)
    (x18 : PySem.W.isFn K (.ref fn11) = true)
    (x19 : PySem.W.isFn K (.ref fn12) = true)
    (x20 : PySem.W.isFn K (.ref fn13) = true)
    (x21 : PySem.W.isFn K (.ref fn14) = true)
    (x22 : PySem.W.isFn K (.ref fn15) = true)
    (x23 : PySem.W.findIn K (.ref c_Table) "__ne__" = some (some (.builtin "object.__ne__")))
    (x24 : PySem.W.isFn K (.ref fn16) = true)
    (x25 : PySem.W.specialIn K (.ref p_Table_parts) "__get__" = some (some (.builtin "property.__get__")))
    (x26 : PySem.W.takesIn K (.ref p_Table_parts) = some true)
    (x27 : PySem.W.findIn K (.ref c_Table) "_parts" = some none)
    (x28 : PySem.W.findIn K (.ref c_Table) "_rows" = some none)
    (x29 : PySem.W.findIn K (.ref c_Table) "_by_number" = some none)
    (x30 : PySem.W.readsIn K c_Table (.type "type") = true)
    (x31 : PySem.W.specialIn K (.ref c_Table) "__getattribute__" = some (some (.builtin "type.__getattribute__")))
    (x32 : PySem.W.findCls K (.ref c_Table) (.type "type") "MOST_PARTS" = some (.val (.int 4 u_Table_MOST_PARTS)))
    (x33 : PySem.W.findCls K (.ref c_Table) (.type "type") "MOST_ROWS" = some (.val (.int 300 u_Table_MOST_ROWS)))
    (x34 : PySem.W.isClsIn K c_Table = true)
    (x35 : PySem.W.typeIn K (.ref c_Table) = some (.type "type")) :
    ∃ fd : FuncData, (∀ (s : Shared) (v : Value), BindsTo s fd ⟨[v], []⟩ [("_law_script", v)]) ∧ ∀ base : Heap, K.In base → base.Ns mainGlobals mg → FnOk l.prog w K mg base CX0 18 fa fd ["_law_script"] (spLaw K) := by
  have e := hfa.symm.trans (PySem.W.mg_of X G a31)
  cases e
  let T : Txt K mg :=
    { f_is_whole := fn1, fd_is_whole := (PySem.W.fnOf "is_whole" "is_whole" (defArgs s_is_whole) (defBody s_is_whole) (defScope s_is_whole) .none kV1 dc1 pm1 an1 cd1 ct1), F_is_whole := (fun_mk (st := s_is_whole) l1 e1 k1), k_is_whole := k1,
      g_is_whole := PySem.W.mg_of X G a1,
      bd_is_whole := ((fun_mk (st := s_is_whole) l1 e1 k1).binds (ps := ["value"]) fun _ _ _ _ _ _ us hl => match us, hl with | [_], _ => rfl),
      f_is_number := fn2, fd_is_number := (PySem.W.fnOf "is_number" "is_number" (defArgs s_is_number) (defBody s_is_number) (defScope s_is_number) .none kV2 dc2 pm2 an2 cd2 ct2), F_is_number := (fun_mk (st := s_is_number) l2 e2 k2), k_is_number := k2,
      g_is_number := PySem.W.mg_of X G a2,
      bd_is_number := ((fun_mk (st := s_is_number) l2 e2 k2).binds (ps := ["value", "least", "most"]) fun _ _ _ _ _ _ us hl => match us, hl with | [_, _, _], _ => rfl),
      f__check_parts := fn3, fd__check_parts := (PySem.W.fnOf "check_parts" "check_parts" (defArgs s__check_parts) (defBody s__check_parts) (defScope s__check_parts) .none kV3 dc3 pm3 an3 cd3 ct3), F__check_parts := (fun_mk (st := s__check_parts) l3 e3 k3), k__check_parts := k3,
      g__check_parts := PySem.W.mg_of X G a3,
      bd__check_parts := ((fun_mk (st := s__check_parts) l3 e3 k3).binds (ps := ["parts"]) fun _ _ _ _ _ _ us hl => match us, hl with | [_], _ => rfl),
      f__check_part := fn4, fd__check_part := (PySem.W.fnOf "check_part" "check_part" (defArgs s__check_part) (defBody s__check_part) (defScope s__check_part) .none kV4 dc4 pm4 an4 cd4 ct4), F__check_part := (fun_mk (st := s__check_part) l4 e4 k4), k__check_part := k4,
      g__check_part := PySem.W.mg_of X G a4,
      bd__check_part := ((fun_mk (st := s__check_part) l4 e4 k4).binds (ps := ["part", "parts"]) fun _ _ _ _ _ _ us hl => match us, hl with | [_, _], _ => rfl),
      f__are_parts := fn5, fd__are_parts := (PySem.W.fnOf "_are_parts" "_are_parts" (defArgs s__are_parts) (defBody s__are_parts) (defScope s__are_parts) .none kV5 dc5 pm5 an5 cd5 ct5), F__are_parts := (fun_mk (st := s__are_parts) l5 e5 k5), k__are_parts := k5,
      g__are_parts := PySem.W.mg_of X G a5,
      bd__are_parts := ((fun_mk (st := s__are_parts) l5 e5 k5).binds (ps := ["value", "parts"]) fun _ _ _ _ _ _ us hl => match us, hl with | [_, _], _ => rfl),
      f__is_row := fn6, fd__is_row := (PySem.W.fnOf "is_row" "is_row" (defArgs s__is_row) (defBody s__is_row) (defScope s__is_row) .none kV6 dc6 pm6 an6 cd6 ct6), F__is_row := (fun_mk (st := s__is_row) l6 e6 k6), k__is_row := k6,
      g__is_row := PySem.W.mg_of X G a6,
      bd__is_row := ((fun_mk (st := s__is_row) l6 e6 k6).binds (ps := ["value", "parts"]) fun _ _ _ _ _ _ us hl => match us, hl with | [_, _], _ => rfl),
      f__rows_by_number := fn7, fd__rows_by_number := (PySem.W.fnOf "_rows_by_number" "_rows_by_number" (defArgs s__rows_by_number) (defBody s__rows_by_number) (defScope s__rows_by_number) .none kV7 dc7 pm7 an7 cd7 ct7), F__rows_by_number := (fun_mk (st := s__rows_by_number) l7 e7 k7), k__rows_by_number := k7,
      g__rows_by_number := PySem.W.mg_of X G a7,
      bd__rows_by_number := ((fun_mk (st := s__rows_by_number) l7 e7 k7).binds (ps := ["rows"]) fun _ _ _ _ _ _ us hl => match us, hl with | [_], _ => rfl),
      f_Table_init := fn8, fd_Table_init := (PySem.W.fnOf "__init__" "Table.__init__" (defArgs s_Table_init) (defBody s_Table_init) (defScope s_Table_init) .none kV8 dc8 pm8 an8 cd8 ct8), F_Table_init := (fun_mk (st := s_Table_init) l8 e8 k8), k_Table_init := k8,
      bd_Table_init := ((fun_mk (st := s_Table_init) l8 e8 k8).binds (ps := ["self", "parts", "rows"]) fun _ _ _ _ _ _ us hl => match us, hl with | [_, _, _], _ => rfl),
      f_Table_parts := fn9, fd_Table_parts := (PySem.W.fnOf "parts" "Table.parts" (defArgs s_Table_parts) (defBody s_Table_parts) (defScope s_Table_parts) .none kV9 dc9 pm9 an9 cd9 ct9), F_Table_parts := (fun_mk (st := s_Table_parts) l9 e9 k9), k_Table_parts := k9,
      bd_Table_parts := ((fun_mk (st := s_Table_parts) l9 e9 k9).binds (ps := ["self"]) fun _ _ _ _ _ _ us hl => match us, hl with | [_], _ => rfl),
      f_Table_rows := fn10, fd_Table_rows := (PySem.W.fnOf "rows" "Table.rows" (defArgs s_Table_rows) (defBody s_Table_rows) (defScope s_Table_rows) .none kV10 dc10 pm10 an10 cd10 ct10), F_Table_rows := (fun_mk (st := s_Table_rows) l10 e10 k10), k_Table_rows := k10,
      bd_Table_rows := ((fun_mk (st := s_Table_rows) l10 e10 k10).binds (ps := ["self"]) fun _ _ _ _ _ _ us hl => match us, hl with | [_], _ => rfl),
      f_Table_places := fn11, fd_Table_places := (PySem.W.fnOf "places" "Table.places" (defArgs s_Table_places) (defBody s_Table_places) (defScope s_Table_places) .none kV11 dc11 pm11 an11 cd11 ct11), F_Table_places := (fun_mk (st := s_Table_places) l11 e11 k11), k_Table_places := k11,
      bd_Table_places := ((fun_mk (st := s_Table_places) l11 e11 k11).binds (ps := ["self"]) fun _ _ _ _ _ _ us hl => match us, hl with | [_], _ => rfl),
      f_Table_part := fn12, fd_Table_part := (PySem.W.fnOf "part" "Table.part" (defArgs s_Table_part) (defBody s_Table_part) (defScope s_Table_part) .none kV12 dc12 pm12 an12 cd12 ct12), F_Table_part := (fun_mk (st := s_Table_part) l12 e12 k12), k_Table_part := k12,
      bd_Table_part := ((fun_mk (st := s_Table_part) l12 e12 k12).binds (ps := ["self", "index"]) fun _ _ _ _ _ _ us hl => match us, hl with | [_, _], _ => rfl),
      f_Table_len := fn13, fd_Table_len := (PySem.W.fnOf "__len__" "Table.__len__" (defArgs s_Table_len) (defBody s_Table_len) (defScope s_Table_len) .none kV13 dc13 pm13 an13 cd13 ct13), F_Table_len := (fun_mk (st := s_Table_len) l13 e13 k13), k_Table_len := k13,
      bd_Table_len := ((fun_mk (st := s_Table_len) l13 e13 k13).binds (ps := ["self"]) fun _ _ _ _ _ _ us hl => match us, hl with | [_], _ => rfl),
      f_Table_bool := fn14, fd_Table_bool := (PySem.W.fnOf "__bool__" "Table.__bool__" (defArgs s_Table_bool) (defBody s_Table_bool) (defScope s_Table_bool) .none kV14 dc14 pm14 an14 cd14 ct14), F_Table_bool := (fun_mk (st := s_Table_bool) l14 e14 k14), k_Table_bool := k14,
      bd_Table_bool := ((fun_mk (st := s_Table_bool) l14 e14 k14).binds (ps := ["self"]) fun _ _ _ _ _ _ us hl => match us, hl with | [_], _ => rfl),
      f_Table_eq := fn15, fd_Table_eq := (PySem.W.fnOf "__eq__" "Table.__eq__" (defArgs s_Table_eq) (defBody s_Table_eq) (defScope s_Table_eq) .none kV15 dc15 pm15 an15 cd15 ct15), F_Table_eq := (fun_mk (st := s_Table_eq) l15 e15 k15), k_Table_eq := k15,
      bd_Table_eq := ((fun_mk (st := s_Table_eq) l15 e15 k15).binds (ps := ["self", "other"]) fun _ _ _ _ _ _ us hl => match us, hl with | [_, _], _ => rfl),
      f_Table_repr := fn16, fd_Table_repr := (PySem.W.fnOf "__repr__" "Table.__repr__" (defArgs s_Table_repr) (defBody s_Table_repr) (defScope s_Table_repr) .none kV16 dc16 pm16 an16 cd16 ct16), F_Table_repr := (fun_mk (st := s_Table_repr) l16 e16 k16), k_Table_repr := k16,
      bd_Table_repr := ((fun_mk (st := s_Table_repr) l16 e16 k16).binds (ps := ["self"]) fun _ _ _ _ _ _ us hl => match us, hl with | [_], _ => rfl),
      f_check_plain := fn17, fd_check_plain := (PySem.W.fnOf "check_plain" "check_plain" (defArgs s_check_plain) (defBody s_check_plain) (defScope s_check_plain) .none kV17 dc17 pm17 an17 cd17 ct17), F_check_plain := (fun_mk (st := s_check_plain) l17 e17 k17), k_check_plain := k17,
      g_check_plain := PySem.W.mg_of X G a17,
      bd_check_plain := ((fun_mk (st := s_check_plain) l17 e17 k17).binds (ps := ["table"]) fun _ _ _ _ _ _ us hl => match us, hl with | [_], _ => rfl),
      f_check_asks := fn18, fd_check_asks := (PySem.W.fnOf "check_asks" "check_asks" (defArgs s_check_asks) (defBody s_check_asks) (defScope s_check_asks) .none kV18 dc18 pm18 an18 cd18 ct18), F_check_asks := (fun_mk (st := s_check_asks) l18 e18 k18), k_check_asks := k18,
      g_check_asks := PySem.W.mg_of X G a18,
      bd_check_asks := ((fun_mk (st := s_check_asks) l18 e18 k18).binds (ps := ["asks", "lengths", "most"]) fun _ _ _ _ _ _ us hl => match us, hl with | [_, _, _], _ => rfl),
      f__check_numbers := fn19, fd__check_numbers := (PySem.W.fnOf "_check_numbers" "_check_numbers" (defArgs s__check_numbers) (defBody s__check_numbers) (defScope s__check_numbers) .none kV19 dc19 pm19 an19 cd19 ct19), F__check_numbers := (fun_mk (st := s__check_numbers) l19 e19 k19), k__check_numbers := k19,
      g__check_numbers := PySem.W.mg_of X G a19,
      bd__check_numbers := ((fun_mk (st := s__check_numbers) l19 e19 k19).binds (ps := ["skip", "size"]) fun _ _ _ _ _ _ us hl => match us, hl with | [_, _], _ => rfl),
      f_window := fn20, fd_window := (PySem.W.fnOf "window" "window" (defArgs s_window) (defBody s_window) (defScope s_window) .none kV20 dc20 pm20 an20 cd20 ct20), F_window := (fun_mk (st := s_window) l20 e20 k20), k_window := k20,
      g_window := PySem.W.mg_of X G a20,
      bd_window := ((fun_mk (st := s_window) l20 e20 k20).binds (ps := ["table", "asks", "skip", "size"]) fun _ _ _ _ _ _ us hl => match us, hl with | [_, _, _, _], _ => rfl),
      f_open := fn21, fd_open := (PySem.W.fnOf "_law_open" "_law_open" (defArgs s_open) (defBody s_open) (defScope s_open) .none kV21 dc21 pm21 an21 cd21 ct21), F_open := (fun_mk (st := s_open) l21 e21 k21), k_open := k21,
      g_open := PySem.W.mg_of X G a21,
      bd_open := ((fun_mk (st := s_open) l21 e21 k21).binds (ps := ["_law_script"]) fun _ _ _ _ _ _ us hl => match us, hl with | [_], _ => rfl),
      f_draw := fn22, fd_draw := (PySem.W.fnOf "_law_draw" "_law_draw" (defArgs s_draw) (defBody s_draw) (defScope s_draw) .none kV22 dc22 pm22 an22 cd22 ct22), F_draw := (fun_mk (st := s_draw) l22 e22 k22), k_draw := k22,
      g_draw := PySem.W.mg_of X G a22,
      bd_draw := ((fun_mk (st := s_draw) l22 e22 k22).binds (ps := ["_law_bag", "_law_many"]) fun _ _ _ _ _ _ us hl => match us, hl with | [_, _], _ => rfl),
      f_of := fn23, fd_of := (PySem.W.fnOf "_law_of" "_law_of" (defArgs s_of) (defBody s_of) (defScope s_of) .none kV23 dc23 pm23 an23 cd23 ct23), F_of := (fun_mk (st := s_of) l23 e23 k23), k_of := k23,
      g_of := PySem.W.mg_of X G a23,
      bd_of := ((fun_mk (st := s_of) l23 e23 k23).binds (ps := ["_law_bag", "_law_things"]) fun _ _ _ _ _ _ us hl => match us, hl with | [_, _], _ => rfl),
      f_mixed := fn24, fd_mixed := (PySem.W.fnOf "_law_mixed" "_law_mixed" (defArgs s_mixed) (defBody s_mixed) (defScope s_mixed) .none kV24 dc24 pm24 an24 cd24 ct24), F_mixed := (fun_mk (st := s_mixed) l24 e24 k24), k_mixed := k24,
      g_mixed := PySem.W.mg_of X G a24,
      bd_mixed := ((fun_mk (st := s_mixed) l24 e24 k24).binds (ps := ["_law_bag", "_law_things"]) fun _ _ _ _ _ _ us hl => match us, hl with | [_, _], _ => rfl),
      f_like := fn25, fd_like := (PySem.W.fnOf "_law_like" "_law_like" (defArgs s_like) (defBody s_like) (defScope s_like) .none kV25 dc25 pm25 an25 cd25 ct25), F_like := (fun_mk (st := s_like) l25 e25 k25), k_like := k25,
      g_like := PySem.W.mg_of X G a25,
      bd_like := ((fun_mk (st := s_like) l25 e25 k25).binds (ps := ["_law_found", "_law_due"]) fun _ _ _ _ _ _ us hl => match us, hl with | [_, _], _ => rfl),
      f_numbers := fn26, fd_numbers := (PySem.W.fnOf "_law_numbers" "_law_numbers" (defArgs s_numbers) (defBody s_numbers) (defScope s_numbers) .none kV26 dc26 pm26 an26 cd26 ct26), F_numbers := (fun_mk (st := s_numbers) l26 e26 k26), k_numbers := k26,
      g_numbers := PySem.W.mg_of X G a26,
      bd_numbers := ((fun_mk (st := s_numbers) l26 e26 k26).binds (ps := ["_law_bag", "_law_many"]) fun _ _ _ _ _ _ us hl => match us, hl with | [_, _], _ => rfl),
      f_base := fn27, fd_base := (PySem.W.fnOf "_law_base" "_law_base" (defArgs s_base) (defBody s_base) (defScope s_base) .none kV27 dc27 pm27 an27 cd27 ct27), F_base := (fun_mk (st := s_base) l27 e27 k27), k_base := k27,
      g_base := PySem.W.mg_of X G a27,
      bd_base := ((fun_mk (st := s_base) l27 e27 k27).binds (ps := ["_law_bag"]) fun _ _ _ _ _ _ us hl => match us, hl with | [_], _ => rfl),
      f_some_parts := fn28, fd_some_parts := (PySem.W.fnOf "_law_some_parts" "_law_some_parts" (defArgs s_some_parts) (defBody s_some_parts) (defScope s_some_parts) .none kV28 dc28 pm28 an28 cd28 ct28), F_some_parts := (fun_mk (st := s_some_parts) l28 e28 k28), k_some_parts := k28,
      g_some_parts := PySem.W.mg_of X G a28,
      bd_some_parts := ((fun_mk (st := s_some_parts) l28 e28 k28).binds (ps := ["_law_bag", "_law_parts", "_law_copies"]) fun _ _ _ _ _ _ us hl => match us, hl with | [_, _, _], _ => rfl),
      f_rows := fn29, fd_rows := (PySem.W.fnOf "_law_rows" "_law_rows" (defArgs s_rows) (defBody s_rows) (defScope s_rows) .none kV29 dc29 pm29 an29 cd29 ct29), F_rows := (fun_mk (st := s_rows) l29 e29 k29), k_rows := k29,
      g_rows := PySem.W.mg_of X G a29,
      bd_rows := ((fun_mk (st := s_rows) l29 e29 k29).binds (ps := ["_law_bag", "_law_parts", "_law_many", "_law_copies"]) fun _ _ _ _ _ _ us hl => match us, hl with | [_, _, _, _], _ => rfl),
      f_table := fn30, fd_table := (PySem.W.fnOf "_law_table" "_law_table" (defArgs s_table) (defBody s_table) (defScope s_table) .none kV30 dc30 pm30 an30 cd30 ct30), F_table := (fun_mk (st := s_table) l30 e30 k30), k_table := k30,
      g_table := PySem.W.mg_of X G a30,
      bd_table := ((fun_mk (st := s_table) l30 e30 k30).binds (ps := ["_law_parts", "_law_rows_here"]) fun _ _ _ _ _ _ us hl => match us, hl with | [_, _], _ => rfl),
      f_law := fa, fd_law := (PySem.W.fnOf "law" "law" (defArgs s_law) (defBody s_law) (defScope s_law) .none kV31 dc31 pm31 an31 cd31 ct31), F_law := (fun_mk (st := s_law) l31 e31 k31), k_law := k31,
      g_law := PySem.W.mg_of X G a31,
      bd_law := ((fun_mk (st := s_law) l31 e31 k31).binds (ps := ["_law_script"]) fun _ _ _ _ _ _ us hl => match us, hl with | [_], _ => rfl),
      b_all := PySem.W.mg_none_of X G z1,
      b_bool := PySem.W.mg_none_of X G z2,
      b_enumerate := PySem.W.mg_none_of X G z3,
      b_int := PySem.W.mg_none_of X G z4,
      b_isinstance := PySem.W.mg_none_of X G z5,
      b_len := PySem.W.mg_none_of X G z6,
      b_list := PySem.W.mg_none_of X G z7,
      b_range := PySem.W.mg_none_of X G z8,
      b_sorted := PySem.W.mg_none_of X G z9,
      b_str := PySem.W.mg_none_of X G z10,
      b_tuple := PySem.W.mg_none_of X G z11,
      b_zip := PySem.W.mg_none_of X G z12,
      t__MOST_KEY := t__MOST_KEY,
      g__MOST_KEY := PySem.W.mg_of X G x1,
      t_MOST_NUMBER_tables := t_MOST_NUMBER_tables,
      g_MOST_NUMBER_tables := PySem.W.mg_of X G x2,
      t__MOST_ASK := t__MOST_ASK,
      g__MOST_ASK := PySem.W.mg_of X G x3,
      t_MOST_NUMBER_windows := t_MOST_NUMBER_windows,
      g_MOST_NUMBER_windows := PySem.W.mg_of X G x4,
      c_Table := c_Table,
      g_Table := PySem.W.mg_of X G y_Table,
      cf_Table := ⟨⟨x5, x6, x7, x8⟩, x9, x10, x11, x12⟩,
      mk_Table := ⟨x13, x14, x15, x16⟩,
      m_Table_rows := ⟨a10, x17, k10⟩,
      m_Table_places := ⟨a11, x18, k11⟩,
      m_Table_part := ⟨a12, x19, k12⟩,
      dn_Table_len := a13,
      fn_Table_len := x20,
      dn_Table_bool := a14,
      fn_Table_bool := x21,
      dn_Table_eq := a15,
      fn_Table_eq := x22,
      eq_Table := a15,
      ne_Table := x23,
      dn_Table_repr := a16,
      fn_Table_repr := x24,
      p_Table_parts := p_Table_parts,
      pr_Table_parts := ⟨b9, x25, x26, _, a9⟩,
      na_Table_parts := x27,
      na_Table_rows := x28,
      na_Table_by_number := x29,
      mc_Table := .type "type",
      cr_Table := ⟨x30, x31⟩,
      cv_Table_MOST_PARTS := ⟨.int 4 u_Table_MOST_PARTS, x32, ⟨_, rfl⟩⟩,
      cv_Table_MOST_ROWS := ⟨.int 300 u_Table_MOST_ROWS, x33, ⟨_, rfl⟩⟩,
      kit_Table_own := kit_own,
      nf_Table_own := nf_own,
      kit_Table_list := kit_ty x34 x35 (by decide),
      nf_Table_list := nf_ty (by decide),
      kit_Table_NoneType := kit_ty x34 x35 (by decide),
      nf_Table_NoneType := nf_ty (by decide) }
  exact ⟨T.fd_law, fun s v => .of_eq rfl, fun base _ _ => ok_law T⟩
theorem walk {l : PySem.W.OpenLaw} {q : Program} {loose : List Str} {XP : (Str → Option Value) → Heap → Prop} {YP : World → Heap → Prop} {d : DefRec} {K : Params → PySem.W.Frag} (hn : l.most = some 63) (hdf : d.params.defaults = [])
    (hY : ∀ (w : World) (h : Heap), YP w h → (K w.params).In h)
    (F : ∀ (w : World) (mg : Str → Option Value) (fa : Addr) (h : Heap), (K w.params).In h → h.Ns mainGlobals mg → mg d.name = some (.ref fa) →
      ∃ fd : FuncData, (∀ (s : Shared) (u : Value), BindsTo s fd ⟨[u], []⟩ [("_law_script", u)]) ∧ ∀ base : Heap, (K w.params).In base → base.Ns mainGlobals mg → FnOk l.prog w (K w.params) mg base CX0 18 fa fd ["_law_script"] (spLaw (K w.params))) :
    PySem.W.WalkO q loose XP YP l.row.toRowW d [] (fun f vs => PySem.call f vs) :=
  L2.walk_of (n := 63) (k := 18) (x := "_law_script") (CX := fun _ => CX0) (sp := fun w => spLaw (K w.params)) hn (by decide) hdf ⟨rfl, by decide, by decide⟩ hY F (fun _ _ a ns hl _ hS => ⟨a, ns, rfl, hS, hl, fun _ => rfl⟩) fun _ _ _ _ _ z => z
end Pf
open PySem PySem.W PyProof.Rows
set_option maxRecDepth 100000 in
set_option maxHeartbeats 0 in
theorem PySem.Challenge.cw_partfirsts_k51_windows_told_holds : PySem.Challenge.rw_partfirsts_k51_windows_told.Holds := by
  w_on; o_law; k_head; (case hw => w_witness2)
  k_fill
  refine Pf.walk (l := PySem.Challenge.rw_partfirsts_k51_windows_told) rfl rfl (fun w h Y => PySem.W.kIn_of Y) ?F
  case F =>
    intro w mg fa h KX G hmg
    refine' Pf.all_mk KX G hmg ?y_Table ?a1 ?l1 ?e1 ?k1 ?a2 ?l2 ?e2 ?k2 ?a3 ?l3 ?e3 ?k3 ?a4 ?l4 ?e4 ?k4 ?a5 ?l5 ?e5 ?k5 ?a6 ?l6 ?e6 ?k6 ?a7 ?l7 ?e7 ?k7 ?a8 ?l8 ?e8 ?k8 ?b9 ?a9 ?l9 ?e9 ?k9 ?a10 ?l10 ?e10 ?k10 ?a11 ?l11 ?e11 ?k11 ?a12 ?l12 ?e12 ?k12 ?a13 ?l13 ?e13 ?k13 ?a14 ?l14 ?e14 ?k14 ?a15 ?l15 ?e15 ?k15 ?a16 ?l16 ?e16 ?k16 ?a17 ?l17 ?e17 ?k17 ?a18 ?l18 ?e18 ?k18 ?a19 ?l19 ?e19 ?k19 ?a20 ?l20 ?e20 ?k20 ?a21 ?l21 ?e21 ?k21 ?a22 ?l22 ?e22 ?k22 ?a23 ?l23 ?e23 ?k23 ?a24 ?l24 ?e24 ?k24 ?a25 ?l25 ?e25 ?k25 ?a26 ?l26 ?e26 ?k26 ?a27 ?l27 ?e27 ?k27 ?a28 ?l28 ?e28 ?k28 ?a29 ?l29 ?e29 ?k29 ?a30 ?l30 ?e30 ?k30 ?a31 ?l31 ?e31 ?k31 ?z1 ?z2 ?z3 ?z4 ?z5 ?z6 ?z7 ?z8 ?z9 ?z10 ?z11 ?z12 ?x1 ?x2 ?x3 ?x4 ?x5 ?x6 ?x7 ?x8 ?x9 ?x10 ?x11 ?x12 ?x13 ?x14 ?x15 ?x16 ?x17 ?x18 ?x19 ?x20 ?x21 ?x22 ?x23 ?x24 ?x25 ?x26 ?x27 ?x28 ?x29 ?x30 ?x31 ?x32 ?x33 ?x34 ?x35
    (case y_Table => k_is)
    (case a1 => k_is)
    (case l1 => k_is)
    (case e1 => k_is)
    (case k1 => k_is)
    (case a2 => k_is)
    (case l2 => k_is)
    (case e2 => k_is)
    (case k2 => k_is)
    (case a3 => k_is)
    (case l3 => k_is)
    (case e3 => k_is)
    (case k3 => k_is)
    (case a4 => k_is)
    (case l4 => k_is)
    (case e4 => k_is)
    (case k4 => k_is)
    (case a5 => k_is)
    (case l5 => k_is)
    (case e5 => k_is)
    (case k5 => k_is)
    (case a6 => k_is)
    (case l6 => k_is)
    (case e6 => k_is)
    (case k6 => k_is)
    (case a7 => k_is)
    (case l7 => k_is)
    (case e7 => k_is)
    (case k7 => k_is)
    (case a8 => k_is)
    (case l8 => k_is)
    (case e8 => k_is)
    (case k8 => k_is)
    (case b9 => k_is)
    (case a9 => k_is)
    (case l9 => k_is)
    (case e9 => k_is)
    (case k9 => k_is)
    (case a10 => k_is)
    (case l10 => k_is)
    (case e10 => k_is)
    (case k10 => k_is)
    (case a11 => k_is)
    (case l11 => k_is)
    (case e11 => k_is)
    (case k11 => k_is)
    (case a12 => k_is)
    (case l12 => k_is)
    (case e12 => k_is)
    (case k12 => k_is)
    (case a13 => k_is)
    (case l13 => k_is)
    (case e13 => k_is)
    (case k13 => k_is)
    (case a14 => k_is)
    (case l14 => k_is)
    (case e14 => k_is)
    (case k14 => k_is)
    (case a15 => k_is)
    (case l15 => k_is)
    (case e15 => k_is)
    (case k15 => k_is)
    (case a16 => k_is)
    (case l16 => k_is)
    (case e16 => k_is)
    (case k16 => k_is)
    (case a17 => k_is)
    (case l17 => k_is)
    (case e17 => k_is)
    (case k17 => k_is)
    (case a18 => k_is)
    (case l18 => k_is)
    (case e18 => k_is)
    (case k18 => k_is)
    (case a19 => k_is)
    (case l19 => k_is)
    (case e19 => k_is)
    (case k19 => k_is)
    (case a20 => k_is)
    (case l20 => k_is)
    (case e20 => k_is)
    (case k20 => k_is)
    (case a21 => k_is)
    (case l21 => k_is)
    (case e21 => k_is)
    (case k21 => k_is)
    (case a22 => k_is)
    (case l22 => k_is)
    (case e22 => k_is)
    (case k22 => k_is)
    (case a23 => k_is)
    (case l23 => k_is)
    (case e23 => k_is)
    (case k23 => k_is)
    (case a24 => k_is)
    (case l24 => k_is)
    (case e24 => k_is)
    (case k24 => k_is)
    (case a25 => k_is)
    (case l25 => k_is)
    (case e25 => k_is)
    (case k25 => k_is)
    (case a26 => k_is)
    (case l26 => k_is)
    (case e26 => k_is)
    (case k26 => k_is)
    (case a27 => k_is)
    (case l27 => k_is)
    (case e27 => k_is)
    (case k27 => k_is)
    (case a28 => k_is)
    (case l28 => k_is)
    (case e28 => k_is)
    (case k28 => k_is)
    (case a29 => k_is)
    (case l29 => k_is)
    (case e29 => k_is)
    (case k29 => k_is)
    (case a30 => k_is)
    (case l30 => k_is)
    (case e30 => k_is)
    (case k30 => k_is)
    (case a31 => k_is)
    (case l31 => k_is)
    (case e31 => k_is)
    (case k31 => k_is)
    (case z1 => k_is)
    (case z2 => k_is)
    (case z3 => k_is)
    (case z4 => k_is)
    (case z5 => k_is)
    (case z6 => k_is)
    (case z7 => k_is)
    (case z8 => k_is)
    (case z9 => k_is)
    (case z10 => k_is)
    (case z11 => k_is)
    (case z12 => k_is)
    (case x1 => k_is)
    (case x2 => k_is)
    (case x3 => k_is)
    (case x4 => k_is)
    (case x5 => k_is)
    (case x6 => k_is)
    (case x7 => k_is)
    (case x8 => k_is)
    (case x9 => k_is)
    (case x10 => k_is)
    (case x11 => k_is)
    (case x12 => k_is)
    (case x13 => k_is)
    (case x14 => k_is)
    (case x15 => k_is)
    (case x16 => k_is)
    (case x17 => k_is)
    (case x18 => k_is)
    (case x19 => k_is)
    (case x20 => k_is)
    (case x21 => k_is)
    (case x22 => k_is)
    (case x23 => k_is)
    (case x24 => k_is)
    (case x25 => k_is)
    (case x26 => k_is)
    (case x27 => k_is)
    (case x28 => k_is)
    (case x29 => k_is)
    (case x30 => k_is)
    (case x31 => k_is)
    (case x32 => k_is)
    (case x33 => k_is)
    (case x34 => k_is)
    (case x35 => k_is)
#print axioms PySem.Challenge.cw_partfirsts_k51_windows_told_holds
