import PyProof.Rows.All
import Wide.All
import OpenK.AllK
import Wide.FinOn
import HandS.ForMost
import HandS.IsInst
import HandS.Zip
import HandS.Walk
import HandS.ExcInit
import HandS.Lambda
import KE.GoesEnum
import KE.SortData
import HandS.MakeKwOnly
import HandS.Property
import HandS.ClsMeth
import HandS.FStr
import HandS.SlotsOwn
import HandS.Style
import HandS.Conv
import HandS.TupAny
import HandS.SetFor
import HandS.Deep
import HandS.Strs
import HandS.ExcIs
import HandS.ExcField
import HandS.ExcValue
import KE.KExcIs
import HandS.WordsExc
import HandS.HotCalls
import KE.KTryMore
import HandS.EndTab
import KE.KDflt
import HandS.Nested
import HandS.EndOwn
import KE.KRevSl
import HandS.Star
import HandS.TupMul
import HandS.NoneIn
import KE.DataMinMax
import KE.DataEq
import Flt.Ops
import HandS.DictComp
import HandS.Iter
import PySem.Challenge.RW_partfirsts_k54_groups_told
set_option Elab.async false
set_option linter.all false
set_option maxRecDepth 100000
set_option maxHeartbeats 4000000
/-! data without a heap: D; what bears it: Rep; a judgement that speaks of data alone: Ev, Do -/
namespace Pf
open PySem L2

/-- data -/
inductive D where
  | non | bl (b : Bool) | int (i : Int) | str (x : Str)
  | lst (ds : List D) | tup (ds : List D)
  | dic (kvs : List (Key × D))
  | ins (C : Addr) (fs : List (Str × D))
  | ty (n : String) | adr (a : Addr)
  | exc (C : Addr) (fs : List (Str × D))
  | fn (f : Addr) (hs : List (Addr × HO)) (ws : List V) (cs : List D)

/-- the heap without what is hidden -/
def hd (M : Addr → Bool) (H : Hp) : Hp := fun a => if M a = true then none else H a
theorem hd_of {M : Addr → Bool} {H : Hp} {a : Addr} {o : HO} (h : hd M H a = some o) : M a = false ∧ H a = some o := by
  unfold hd at h
  cases e : M a with
  | true => rw [e, if_pos rfl] at h; cases h
  | false => rw [e, if_neg Bool.false_ne_true] at h; exact ⟨rfl, h⟩
theorem hd_at {M : Addr → Bool} {H : Hp} {a : Addr} {o : HO} (m : M a = false) (h : H a = some o) : hd M H a = some o := by
  unfold hd
  rw [m, if_neg Bool.false_ne_true]
  exact h
theorem same_hd (M : Addr → Bool) (H : Hp) : Same (hd M H) H := fun _ _ h => (hd_of h).2
theorem same_hd_le {M N : Addr → Bool} {H : Hp} (h : ∀ a, M a = true → N a = true) : Same (hd N H) (hd M H) := fun a o e => by
  obtain ⟨h1, h2⟩ := hd_of e
  refine hd_at ?_ h2
  cases q : M a with
  | true => rw [h a q] at h1; cases h1
  | false => rfl
theorem same_tup {K : PySem.W.Frag} {H H' : Hp} {a : Addr} {xs : List V} (e : Same H H') (h : SqT K H a xs) : SqT K H' a xs := by
  rcases h with (h | ⟨o, h⟩) | h
  · exact .inl (.inl (e _ _ h))
  · exact .inl (.inr ⟨o, e _ _ h⟩)
  · exact .inr h
theorem same_new {H : Hp} {p : Addr} {o : HO} (h : H p = none) : Same H (upd H p o) := fun a u e => by
  rw [upd_ne (ne_of_none e h)]
  exact e

mutual
inductive Rep (K : PySem.W.Frag) (H : Hp) : V → D → Prop
  | non : Rep K H .non .non
  | bl (b : Bool) : Rep K H (.bl b) (.bl b)
  | int (i : Int) : Rep K H (.int i) (.int i)
  | str (x : Str) : Rep K H (.str x) (.str x)
  | lst {a : Addr} {xs : List V} {ds : List D} : H a = some (.lst xs) → RepL K H xs ds → Rep K H (.ref a) (.lst ds)
  | tup {a : Addr} {xs : List V} {ds : List D} : SqT K H a xs → RepL K H xs ds → Rep K H (.ref a) (.tup ds)
  | dic {a : Addr} {kvs : List (Key × V)} {ds : List (Key × D)} : H a = some (.dK kvs) → RepK K H kvs ds → Rep K H (.ref a) (.dic ds)
  | ins {a C dx : Addr} {fs : List (Str × V)} {ds : List (Str × D)} : H a = some (.ins C dx fs) → RepF K H fs ds → Rep K H (.ref a) (.ins C ds)
  | ty (n : String) : Rep K H (.ty n) (.ty n)
  | adr (a : Addr) : Rep K H (.ref a) (.adr a)
  | exc {a C dx : Addr} {fs : List (Str × V)} {ds : List (Str × D)} : H a = some (exo a C (some dx)) → H dx = some (exd dx fs) → RepF K H fs ds → Rep K H (.ref a) (.exc C ds)
  | fn {f : Addr} {hs : List (Addr × HO)} {ws : List V} {cs : List D} : (∀ p ∈ hs, H p.1 = some p.2 ∧ ∀ o u, p.2 ≠ .frz o u) → RepL K H ws cs → Rep K H (.ref f) (.fn f hs ws cs)
inductive RepL (K : PySem.W.Frag) (H : Hp) : List V → List D → Prop
  | nil : RepL K H [] []
  | cons {v : V} {vs : List V} {d : D} {ds : List D} : Rep K H v d → RepL K H vs ds → RepL K H (v :: vs) (d :: ds)
inductive RepK (K : PySem.W.Frag) (H : Hp) : List (Key × V) → List (Key × D) → Prop
  | nil : RepK K H [] []
  | cons {k : Key} {v : V} {vs : List (Key × V)} {d : D} {ds : List (Key × D)} : Rep K H v d → RepK K H vs ds → RepK K H ((k, v) :: vs) ((k, d) :: ds)
inductive RepF (K : PySem.W.Frag) (H : Hp) : List (Str × V) → List (Str × D) → Prop
  | nil : RepF K H [] []
  | cons {k : Str} {v : V} {vs : List (Str × V)} {d : D} {ds : List (Str × D)} : Rep K H v d → RepF K H vs ds → RepF K H ((k, v) :: vs) ((k, d) :: ds)
end
section
variable {K : PySem.W.Frag} {H H' : Hp}
mutual
theorem Rep.mono (e : Same H H') : ∀ {v : V} {d : D}, Rep K H v d → Rep K H' v d
  | _, _, .non => .non
  | _, _, .bl b => .bl b
  | _, _, .int i => .int i
  | _, _, .str x => .str x
  | _, _, .lst h r => .lst (e _ _ h) (RepL.mono e r)
  | _, _, .tup h r => .tup (same_tup e h) (RepL.mono e r)
  | _, _, .dic h r => .dic (e _ _ h) (RepK.mono e r)
  | _, _, .ins h r => .ins (e _ _ h) (RepF.mono e r)
  | _, _, .ty n => .ty n
  | _, _, .adr a => .adr a
  | _, _, .exc h g r => .exc (e _ _ h) (e _ _ g) (RepF.mono e r)
  | _, _, .fn h r => .fn (fun p hp => ⟨e _ _ (h p hp).1, (h p hp).2⟩) (RepL.mono e r)
theorem RepL.mono (e : Same H H') : ∀ {v : List V} {d : List D}, RepL K H v d → RepL K H' v d
  | _, _, .nil => .nil
  | _, _, .cons h r => .cons (Rep.mono e h) (RepL.mono e r)
theorem RepK.mono (e : Same H H') : ∀ {v : List (Key × V)} {d : List (Key × D)}, RepK K H v d → RepK K H' v d
  | _, _, .nil => .nil
  | _, _, .cons h r => .cons (Rep.mono e h) (RepK.mono e r)
theorem RepF.mono (e : Same H H') : ∀ {v : List (Str × V)} {d : List (Str × D)}, RepF K H v d → RepF K H' v d
  | _, _, .nil => .nil
  | _, _, .cons h r => .cons (Rep.mono e h) (RepF.mono e r)
end
theorem RepL.length : ∀ {vs : List V} {ds : List D}, RepL K H vs ds → vs.length = ds.length
  | _, _, .nil => rfl
  | _, _, .cons _ r => congrArg Nat.succ (RepL.length r)
theorem RepL.get : ∀ {vs : List V} {ds : List D} {i : Nat} {d : D}, RepL K H vs ds → ds[i]? = some d → ∃ v, vs[i]? = some v ∧ Rep K H v d
  | _, _, _, _, .nil, e => by simp at e
  | _, _, 0, _, .cons h _, e => by simp at e; subst e; exact ⟨_, rfl, h⟩
  | _, _, i + 1, d, .cons _ r, e => by
    obtain ⟨v, h1, h2⟩ := RepL.get (i := i) (d := d) r (by simpa using e)
    exact ⟨v, by simpa using h1, h2⟩
theorem RepL.getV : ∀ {vs : List V} {ds : List D} {i : Nat} {v : V}, RepL K H vs ds → vs[i]? = some v → ∃ d, ds[i]? = some d ∧ Rep K H v d
  | _, _, _, _, .nil, e => by simp at e
  | _, _, 0, _, .cons h _, e => by simp at e; subst e; exact ⟨_, rfl, h⟩
  | _, _, i + 1, d, .cons _ r, e => by
    obtain ⟨v, h1, h2⟩ := RepL.getV (i := i) (v := d) r (by simpa using e)
    exact ⟨v, by simpa using h1, h2⟩
theorem RepL.append : ∀ {vs ws : List V} {ds es : List D}, RepL K H vs ds → RepL K H ws es → RepL K H (vs ++ ws) (ds ++ es)
  | _, _, _, _, .nil, s => s
  | _, _, _, _, .cons h r, s => .cons h (RepL.append r s)
theorem RepL.one {v : V} {d : D} (h : Rep K H v d) : RepL K H [v] [d] := .cons h .nil
theorem RepL.drop : ∀ {vs : List V} {ds : List D} (n : Nat), RepL K H vs ds → RepL K H (vs.drop n) (ds.drop n)
  | _, _, 0, r => r
  | _, _, _ + 1, .nil => .nil
  | _, _, n + 1, .cons _ r => RepL.drop n r
theorem RepL.take : ∀ {vs : List V} {ds : List D} (n : Nat), RepL K H vs ds → RepL K H (vs.take n) (ds.take n)
  | _, _, 0, _ => .nil
  | _, _, _ + 1, .nil => .nil
  | _, _, n + 1, .cons h r => .cons h (RepL.take n r)
theorem RepF.get : ∀ {vs : List (Str × V)} {ds : List (Str × D)} {f : Str} {d : D}, RepF K H vs ds → ds.lookup f = some d → ∃ v, vs.lookup f = some v ∧ Rep K H v d
  | _, _, _, _, .nil, e => by simp at e
  | _, _, f, d, .cons (k := k) h r, e => by
    rw [List.lookup_cons] at e ⊢
    cases q : f == k with
    | true =>
      rw [q] at e
      cases e
      exact ⟨_, rfl, h⟩
    | false =>
      rw [q] at e
      exact RepF.get r e
theorem RepF.none : ∀ {vs : List (Str × V)} {ds : List (Str × D)} {f : Str}, RepF K H vs ds → ds.lookup f = Option.none → vs.lookup f = Option.none
  | _, _, _, .nil, e => by simp
  | _, _, f, .cons (k := k) h r, e => by
    rw [List.lookup_cons] at e ⊢
    cases q : f == k with
    | true =>
      rw [q] at e
      cases e
    | false =>
      rw [q] at e
      exact RepF.none r e
end

/-! an object of one's own: a list, a dict, an instance -/
inductive OD where
  | lst (ds : List D) | dic (kvs : List (Key × D)) | ins (C : Addr) (fs : List (Str × D))
inductive RepO (K : PySem.W.Frag) (H : Hp) : HO → OD → Prop
  | lst {xs : List V} {ds : List D} : RepL K H xs ds → RepO K H (.lst xs) (.lst ds)
  | dic {kvs : List (Key × V)} {ds : List (Key × D)} : RepK K H kvs ds → RepO K H (.dK kvs) (.dic ds)
  | ins {C dx : Addr} {fs : List (Str × V)} {ds : List (Str × D)} : RepF K H fs ds → RepO K H (.ins C dx fs) (.ins C ds)
theorem RepO.mono {K : PySem.W.Frag} {H H' : Hp} (e : Same H H') {o : HO} {d : OD} (h : RepO K H o d) : RepO K H' o d := by
  cases h with
  | lst r => exact .lst (r.mono e)
  | dic r => exact .dic (r.mono e)
  | ins r => exact .ins (r.mono e)
/-- as data -/
def OD.d : OD → D
  | .lst ds => .lst ds | .dic kvs => .dic kvs | .ins C fs => .ins C fs
theorem RepO.rep {K : PySem.W.Frag} {H : Hp} {a : Addr} {o : HO} {d : OD} (h : RepO K H o d) (e : H a = some o) : Rep K H (.ref a) d.d := by
  cases h with
  | lst r => exact .lst e r
  | dic r => exact .dic e r
  | ins r => exact .ins e r

/-! ### the bag of the draws -/
def BagAt (H : Hp) (b c : Addr) : Prop := ∃ (ns : List Int) (i : Nat) (z s t : Int),
  H b = some (.lst [.ref c, .int (i : Int), .int z, .int s, .int t]) ∧ c ≠ b ∧ H c = some (.lst (ns.map V.int)) ∧ i ≤ ns.length ∧ ns.length ≤ 63 ∧ 0 ≤ z ∧ 0 ≤ s ∧ s < 2147483587 ∧ 0 ≤ t
theorem BagAt.mono {H H' : Hp} {b c : Addr} (e : Same H H') : BagAt H b c → BagAt H' b c := fun ⟨ns, i, z, s, t, h1, h2, h3, h4⟩ =>
  ⟨ns, i, z, s, t, e _ _ h1, h2, e _ _ h3, h4⟩
theorem BagAt.at {H : Hp} {b c : Addr} (h : BagAt H b c) : ∃ o, H b = some o := by
  obtain ⟨ns, i, z, s, t, h1, _⟩ := h
  exact ⟨_, h1⟩

/-! ### the frame of a def -/
structure Fm where
  K : PySem.W.Frag
  B : Option Addr
  M0 : Addr → Bool
  H0 : Hp
  E : XK
  C0 : Addr
  T : List (Addr × Str)
/-- what may change: the bag, the tables of code objects -/
def Fm.mv (F : Fm) (a : Addr) : Prop := F.B = some a ∨ ∃ p ∈ F.T, p.1 = a
theorem mv_none {F : Fm} (hB : F.B = none) (hT : F.T = []) (a : Addr) : ¬ F.mv a := fun z => by
  rcases z with z | z
  · rw [hB] at z; cases z
  · obtain ⟨p, z, _⟩ := z
    rw [hT] at z; cases z
theorem mv_bag {F : Fm} {b : Addr} (hB : F.B = some b) (hT : F.T = []) {a : Addr} (h : a ≠ b) : ¬ F.mv a := fun z => by
  rcases z with z | z
  · rw [hB] at z; exact h (Option.some.inj z).symm
  · obtain ⟨p, z, _⟩ := z
    rw [hT] at z; cases z
/-- all but the bag is kept -/
def StepB (P : Addr → Prop) (H H' : Hp) : Prop := ∀ a o, ¬ P a → H a = some o → H' a = some o
theorem StepB.refl (B : Addr → Prop) (H : Hp) : StepB B H H := fun _ _ _ h => h
theorem StepB.trans {B : Addr → Prop} {H H1 H2 : Hp} (a : StepB B H H1) (b : StepB B H1 H2) : StepB B H H2 := fun c o n h => b c o n (a c o n h)
theorem StepB.of {B : Addr → Prop} {H H' : Hp} (e : Same H H') : StepB B H H' := fun a o _ h => e a o h
/-- what a slot bears -/
inductive SD where
  | un | dat (d : D) | own (p : Addr) (ds : OD) | bag | sq (ds : List D) | sl (ds : List D) | oll (p : Addr) (qs : List (Addr × List D))
/-- a hidden list, older than the frame, of hidden lists -/
def LL (F : Fm) (M : Addr → Bool) (H : Hp) (p : Addr) (qs : List (Addr × List D)) : Prop := (∀ a ∈ p :: qs.map Prod.fst, M a = true ∧ ¬ F.mv a ∧ F.H0 a ≠ none) ∧ H p = some (.lst (qs.map fun q => .ref q.1)) ∧ ∀ q ∈ qs, ∃ us, H q.1 = some (.lst us) ∧ RepL F.K (hd M H) us q.2
theorem LL.mono {F : Fm} {M M' : Addr → Bool} {H H' : Hp} {p : Addr} {qs : List (Addr × List D)} (h : LL F M H p qs) (hm : ∀ a, M a = true → F.H0 a ≠ none → M' a = true) (hk : ∀ a o, M a = true → ¬ F.mv a → F.H0 a ≠ none → H a = some o → H' a = some o) (s : Same (hd M H) (hd M' H')) : LL F M' H' p qs := by
  obtain ⟨h1, h2, h3⟩ := h
  refine ⟨fun a ha => ⟨hm a (h1 a ha).1 (h1 a ha).2.2, (h1 a ha).2⟩, hk p _ (h1 p (by simp)).1 (h1 p (by simp)).2.1 (h1 p (by simp)).2.2 h2, fun q hq => ?_⟩
  obtain ⟨us, h4, h5⟩ := h3 q hq
  have hm := h1 q.1 (List.mem_cons_of_mem _ (List.mem_map_of_mem hq))
  exact ⟨us, hk q.1 _ hm.1 hm.2.1 hm.2.2 h4, h5.mono s⟩
def SlotOk (F : Fm) (M : Addr → Bool) (H : Hp) (s : Option V) : SD → Prop
  | .un => True
  | .dat d => ∃ v, s = some v ∧ Rep F.K (hd M H) v d
  | .own p ds => s = some (.ref p) ∧ M p = true ∧ ∃ vs, H p = some vs ∧ RepO F.K (hd M H) vs ds
  | .bag => ∃ b, F.B = some b ∧ s = some (.ref b)
  | .sq ds => ∃ p vs, s = some (.ref p) ∧ ¬ F.mv p ∧ (SqL F.K F.H0 p vs ∨ SqT F.K F.H0 p vs) ∧ RepL F.K (hd M H) vs ds
  | .sl ds => ∃ p vs, s = some (.ref p) ∧ ¬ F.mv p ∧ SqL F.K F.H0 p vs ∧ RepL F.K (hd M H) vs ds
  | .oll p qs => s = some (.ref p) ∧ LL F M H p qs
/-- nothing hidden is told by what is true of its object -/
def NX (M : Addr → Bool) (H : Hp) : Prop := ∀ a φ, M a = true → H a ≠ some (.ext φ)
structure Ctx (F : Fm) (M : Addr → Bool) (σ : L2.St) (H : Hp) (δ : List SD) : Prop where
  al : ∀ a, M a = true → ∃ o, H a = some o
  al0 : ∀ a, F.M0 a = true → ∃ o, F.H0 a = some o
  m0 : ∀ a, F.M0 a = true → M a = true
  fr : StepB F.mv F.H0 H
  bg : (∀ b, F.B = some b → F.M0 b = true ∧ BagAt H b F.C0 ∧ ∃ o, F.H0 F.C0 = some o) ∧ ∀ p ∈ F.T, F.M0 p.1 = true ∧ LamX.TabS H p.1 p.2 ∧ NX M H
  ln : σ.length = δ.length
  sl : ∀ (i : Nat) (x : SD), δ[i]? = some x → ∃ s, σ[i]? = some s ∧ SlotOk F M H s x
  dj : ∀ (i j : Nat) (p : Addr) (ds es : OD), δ[i]? = some (.own p ds) → δ[j]? = some (.own p es) → i = j
  oh : ∀ (i : Nat) (p : Addr) (ds : OD), δ[i]? = some (.own p ds) → F.H0 p = none ∧ ¬ F.mv p
section
variable {F : Fm} {M M' : Addr → Bool} {σ : L2.St} {H H' : Hp} {δ : List SD}
theorem hd_step (c : Ctx F M σ H δ) (e : StepB F.mv H H') : Same (hd M H) (hd M H') := fun a o h => by
  obtain ⟨m, h1⟩ := hd_of h
  refine hd_at m (e a o (fun z => ?_) h1)
  have q := c.m0 a (z.elim (fun z => (c.bg.1 a z).1) fun ⟨p, z, e⟩ => e ▸ (c.bg.2 p z).1)
  rw [m] at q
  cases q
theorem SlotOk.step (c : Ctx F M σ H δ) (e : StepB F.mv H H') {s : Option V} {x : SD} (hx : ∀ p ds, x = .own p ds → ¬ F.mv p) (h : SlotOk F M H s x) : SlotOk F M H' s x := by
  cases x with
  | un => trivial
  | dat d =>
    obtain ⟨v, h1, h2⟩ := h
    exact ⟨v, h1, h2.mono (hd_step c e)⟩
  | own p ds =>
    obtain ⟨h1, h2, vs, h3, h4⟩ := h
    exact ⟨h1, h2, vs, e p _ (hx p ds rfl) h3, h4.mono (hd_step c e)⟩
  | bag => exact h
  | sq ds =>
    obtain ⟨p, vs, h1, h2, h3, h4⟩ := h
    exact ⟨p, vs, h1, h2, h3, h4.mono (hd_step c e)⟩
  | sl ds =>
    obtain ⟨p, vs, h1, h2, h3, h4⟩ := h
    exact ⟨p, vs, h1, h2, h3, h4.mono (hd_step c e)⟩
  | oll p qs => exact ⟨h.1, h.2.mono (fun _ m _ => m) (fun a o _ nm _ h => e a o nm h) (hd_step c e)⟩
/-- all but the bag is kept, the bag stays a bag -/
theorem Ctx.stepG (c : Ctx F M σ H δ) (e : StepB F.mv H H') (bg : (∀ b, F.B = some b → F.M0 b = true ∧ BagAt H' b F.C0 ∧ ∃ o, F.H0 F.C0 = some o) ∧ ∀ p ∈ F.T, F.M0 p.1 = true ∧ LamX.TabS H' p.1 p.2 ∧ NX M H') : Ctx F M σ H' δ := by
  refine ⟨fun a m => ?_, c.al0, c.m0, c.fr.trans e, bg, c.ln, fun i x hx => ?_, c.dj, c.oh⟩
  · by_cases z : F.mv a
    · rcases z with z | z
      · obtain ⟨_, h2, _⟩ := bg.1 a z
        exact h2.at
      · obtain ⟨p, z, e⟩ := z
        obtain ⟨_, ⟨ps, h2, _⟩, _⟩ := bg.2 p z
        exact ⟨_, e ▸ h2⟩
    · obtain ⟨o, h⟩ := c.al a m
      exact ⟨o, e a o z h⟩
  · obtain ⟨s, h1, h2⟩ := c.sl i x hx
    refine ⟨s, h1, h2.step c e fun p ds z => ?_⟩
    subst z
    exact (c.oh i p ds hx).2
theorem tabS_step {H H' : Hp} {P : Addr} {q : Str} (t : LamX.TabS H P q) (hP : ∀ ps, H P = some (.tbl ps) → H' P = some (.tbl ps)) (k : ∀ c, H c = some (LamX.CodeO c q) → H' c = some (LamX.CodeO c q)) : LamX.TabS H' P q := by
  obtain ⟨ps, h1, h2, h3⟩ := t
  refine ⟨ps, hP ps h1, h2, fun pos cv hc => ?_⟩
  obtain ⟨c, e1, e2⟩ := h3 pos cv hc
  exact ⟨c, e1, k c e2⟩
theorem Ctx.step (c : Ctx F M σ H δ) (e : StepB F.mv H H') (hb : ∀ b, F.B = some b → BagAt H b F.C0 → BagAt H' b F.C0) (ht : ∀ p ∈ F.T, LamX.TabS H p.1 p.2 → LamX.TabS H' p.1 p.2) : Ctx F M σ H' δ :=
  c.stepG e ⟨fun b z => by
    obtain ⟨h1, h2, h3⟩ := c.bg.1 b z
    exact ⟨h1, hb b z h2, h3⟩, fun p h => by
    obtain ⟨h1, h2, h3⟩ := c.bg.2 p h
    refine ⟨h1, ht p h h2, fun a φ m z => ?_⟩
    obtain ⟨o, ho⟩ := c.al a m
    by_cases hv : F.mv a
    · rcases hv with hv | ⟨r, hv, e'⟩
      · obtain ⟨_, g2, _⟩ := c.bg.1 a hv
        obtain ⟨_, _, _, _, _, g3, _⟩ := hb a hv g2
        rw [z] at g3
        cases g3
      · obtain ⟨ps, g2, _⟩ := ht r hv (c.bg.2 r hv).2.1
        rw [e', z] at g2
        cases g2
    · have g := e a o hv ho
      rw [z] at g
      cases g
      exact h3 a φ m ho⟩
theorem Ctx.same (c : Ctx F M σ H δ) (e : Same H H') : Ctx F M σ H' δ := c.step (StepB.of e) (fun b z h => h.mono e) fun p _ h => h.ext e
theorem Ctx.get (c : Ctx F M σ H δ) {i : Nat} {d : D} (h : δ[i]? = some (.dat d)) : ∃ v, σ[i]? = some (some v) ∧ Rep F.K (hd M H) v d := by
  obtain ⟨s, h1, v, h2, h3⟩ := c.sl i _ h
  subst h2
  exact ⟨v, h1, h3⟩
theorem Ctx.set (c : Ctx F M σ H δ) (i : Nat) {v : V} {d : D} (r : Rep F.K (hd M H) v d) : Ctx F M (σ.set i (some v)) H (δ.set i (.dat d)) := by
  have key : ∀ (j : Nat) (x : SD), (δ.set i (.dat d))[j]? = some x → (i = j ∧ x = .dat d) ∨ (i ≠ j ∧ δ[j]? = some x) := fun j x hx => by
    by_cases hj : i = j
    · subst hj
      rw [List.getElem?_set] at hx
      rw [if_pos rfl] at hx
      split at hx
      · exact .inl ⟨rfl, (Option.some.inj hx).symm⟩
      · cases hx
    · rw [List.getElem?_set_ne hj] at hx
      exact .inr ⟨hj, hx⟩
  refine ⟨c.al, c.al0, c.m0, c.fr, c.bg, by rw [List.length_set, List.length_set, c.ln], fun j x hx => ?_, fun j k p ds es h1 h2 => ?_, fun j p ds h => ?_⟩
  · rcases key j x hx with ⟨rfl, rfl⟩ | ⟨hj, hx⟩
    · have hl : i < σ.length := by
        have := (List.getElem?_eq_some_iff.mp hx).1
        rw [List.length_set] at this
        rw [c.ln]
        exact this
      exact ⟨some v, by rw [List.getElem?_set_self hl], v, rfl, r⟩
    · rw [List.getElem?_set_ne hj]
      exact c.sl j x hx
  · rcases key j _ h1 with ⟨_, z⟩ | ⟨_, h1⟩
    · cases z
    rcases key k _ h2 with ⟨_, z⟩ | ⟨_, h2⟩
    · cases z
    exact c.dj j k p ds es h1 h2
  · rcases key j _ h with ⟨_, z⟩ | ⟨_, h⟩
    · cases z
    exact c.oh j p ds h
/-- a slot forgotten -/
theorem Ctx.drop (c : Ctx F M σ H δ) (i : Nat) (s : Option V) : Ctx F M (σ.set i s) H (δ.set i .un) := by
  have key : ∀ (j : Nat) (x : SD), (δ.set i .un)[j]? = some x → (i = j ∧ x = .un) ∨ (i ≠ j ∧ δ[j]? = some x) := fun j x hx => by
    by_cases hj : i = j
    · subst hj
      rw [List.getElem?_set] at hx
      rw [if_pos rfl] at hx
      split at hx
      · exact .inl ⟨rfl, (Option.some.inj hx).symm⟩
      · cases hx
    · rw [List.getElem?_set_ne hj] at hx
      exact .inr ⟨hj, hx⟩
  refine ⟨c.al, c.al0, c.m0, c.fr, c.bg, by rw [List.length_set, List.length_set, c.ln], fun j x hx => ?_, fun j k p ds es h1 h2 => ?_, fun j p ds h => ?_⟩
  · rcases key j x hx with ⟨rfl, rfl⟩ | ⟨hj, hx⟩
    · have hl : i < σ.length := by
        have := (List.getElem?_eq_some_iff.mp hx).1
        rw [List.length_set] at this
        rw [c.ln]
        exact this
      exact ⟨s, by rw [List.getElem?_set_self hl], trivial⟩
    · rw [List.getElem?_set_ne hj]
      exact c.sl j x hx
  · rcases key j _ h1 with ⟨_, z⟩ | ⟨_, h1⟩
    · cases z
    rcases key k _ h2 with ⟨_, z⟩ | ⟨_, h2⟩
    · cases z
    exact c.dj j k p ds es h1 h2
  · rcases key j _ h with ⟨_, z⟩ | ⟨_, h⟩
    · cases z
    exact c.oh j p ds h
def wipeD (δ : List SD) : List Nat → List SD
  | [] => δ
  | v :: vs => (wipeD δ vs).set v .un
theorem Ctx.wipe (c : Ctx F M σ H δ) : ∀ vs : List Nat, Ctx F M (wipe σ vs) H (wipeD δ vs)
  | [] => c
  | v :: vs => (Ctx.wipe c vs).drop v none
end

/-! ### judgements -/
def Ev (F : Fm) (te : TE) (δ : List SD) (P : D → Prop) : Prop := ∀ M σ H (Q : VK), Ctx F M σ H δ →
  (∀ v d H', P d → Ctx F M σ H' δ → StepB F.mv H H' → Rep F.K (hd M H') v d → Q v H') → te σ H Q
def EvT (F : Fm) (tt : TT) (δ : List SD) (P : Bool → Prop) : Prop := ∀ M σ H (Q : Bool → Hp → Prop), Ctx F M σ H δ →
  (∀ b H', P b → Ctx F M σ H' δ → StepB F.mv H H' → Q b H') → tt σ H Q
def EvA (F : Fm) (ta : TA) (δ : List SD) (P : List D → Prop) : Prop := ∀ M σ H (Q : List V → Hp → Prop), Ctx F M σ H δ →
  (∀ vs ds H', P ds → Ctx F M σ H' δ → StepB F.mv H H' → RepL F.K (hd M H') vs ds → Q vs H') → ta σ H Q
def Al (M : Addr → Bool) (H : Hp) : Prop := ∀ a, M a = true → ∃ o, H a = some o
/-- a two-place operation on data -/
def OpD (K : PySem.W.Frag) (r : R2) (x y : D) (P : D → Prop) : Prop := ∀ (M : Addr → Bool) (H : Hp) (v w : V) (Q : VK), Al M H → Rep K (hd M H) v x → Rep K (hd M H) w y →
  (∀ u d H', P d → Same H H' → Rep K (hd M H') u d → Q u H') → r v w H Q
def UnD (K : PySem.W.Frag) (r : V → Hp → VK → Prop) (x : D) (P : D → Prop) : Prop := ∀ (M : Addr → Bool) (H : Hp) (v : V) (Q : VK), Al M H → Rep K (hd M H) v x →
  (∀ u d H', P d → Same H H' → Rep K (hd M H') u d → Q u H') → r v H Q
/-- a call on data -/
def CallD (K : PySem.W.Frag) (r : List V → Hp → VK → Prop) (ds : List D) (P : D → Prop) : Prop := ∀ (M : Addr → Bool) (H : Hp) (vs : List V) (Q : VK), Al M H → RepL K (hd M H) vs ds →
  (∀ u d H', P d → Same H H' → Rep K (hd M H') u d → Q u H') → r vs H Q
theorem sz_of {n : Nat} (h : n ≤ 100000) : n ≤ sizeLine := Nat.le_trans h (by decide)
theorem sz_lt {n : Nat} (h : n < 100000) : n < sizeLine := Nat.lt_of_lt_of_le h (by decide)
theorem hd_new {M : Addr → Bool} {H : Hp} {p : Addr} {o : HO} (al : Al M H) (hp : H p = none) : hd M (upd H p o) p = some o := by
  refine hd_at ?_ upd_same
  cases e : M p with
  | true =>
    obtain ⟨u, h⟩ := al p e
    rw [hp] at h
    cases h
  | false => rfl
theorem same_hdM {M : Addr → Bool} {H H' : Hp} (e : Same H H') : Same (hd M H) (hd M H') := fun a o h => by
  obtain ⟨m, h1⟩ := hd_of h
  exact hd_at m (e a o h1)
section
variable {F : Fm} {δ : List SD} {ta tb tc te : TE} {tt tu : TT} {P P1 P2 P3 : D → Prop} {PT : Bool → Prop} {PA : List D → Prop}
theorem Ev.imp (h : Ev F te δ P) (i : ∀ d, P d → P1 d) : Ev F te δ P1 := fun M σ H Q c q => h M σ H Q c fun v d H' p => q v d H' (i d p)
theorem EvT.imp {PB PC : Bool → Prop} (h : EvT F tt δ PB) (i : ∀ d, PB d → PC d) : EvT F tt δ PC := fun M σ H Q c q => h M σ H Q c fun v H' p => q v H' (i v p)
theorem EvA.imp {ta : TA} {PB PC : List D → Prop} (h : EvA F ta δ PB) (i : ∀ d, PB d → PC d) : EvA F ta δ PC := fun M σ H Q c q => h M σ H Q c fun v d H' p => q v d H' (i d p)
theorem ev_var {i : Nat} {d : D} (h : δ[i]? = some (.dat d)) (p : P d) : Ev F (tVar i) δ P := fun M σ H Q c q => by
  obtain ⟨v, h1, h2⟩ := c.get h
  exact ⟨v, h1, q v d H p c (StepB.refl _ _) h2⟩
theorem ev_int {i : Int} (p : P (.int i)) : Ev F (tC (.int i)) δ P := fun M σ H Q c q => q _ _ H p c (StepB.refl _ _) (.int i)
theorem ev_bl {b : Bool} (p : P (.bl b)) : Ev F (tC (.bl b)) δ P := fun M σ H Q c q => q _ _ H p c (StepB.refl _ _) (.bl b)
theorem ev_str {x : Str} (p : P (.str x)) : Ev F (tC (.str x)) δ P := fun M σ H Q c q => q _ _ H p c (StepB.refl _ _) (.str x)
theorem ev_ty {n : String} (p : P (.ty n)) : Ev F (tC (.ty n)) δ P := fun M σ H Q c q => q _ _ H p c (StepB.refl _ _) (.ty n)
theorem ev_adr {a : Addr} (p : P (.adr a)) : Ev F (tC (.ref a)) δ P := fun M σ H Q c q => q _ _ H p c (StepB.refl _ _) (.adr a)
theorem ev_non (p : P .non) : Ev F (tC .non) δ P := fun M σ H Q c q => q _ _ H p c (StepB.refl _ _) .non
theorem ev_op {r : R2} (h : Ev F ta δ fun x => Ev F tb δ fun y => OpD F.K r x y P) : Ev F (tOp r ta tb) δ P := fun M σ H Q c q =>
  h M σ H _ c fun v x H1 p1 c1 e1 r1 => p1 M σ H1 _ c1 fun w y H2 p2 c2 e2 r2 =>
    p2 M H2 v w Q c2.al (r1.mono (hd_step c1 e2)) r2 fun u d H3 p e r3 => q u d H3 p (c2.same e) ((e1.trans e2).trans (StepB.of e)) r3
theorem ev_un {r : V → Hp → VK → Prop} (h : Ev F ta δ fun x => UnD F.K r x P) : Ev F (tUn r ta) δ P := fun M σ H Q c q =>
  h M σ H _ c fun v x H1 p1 c1 e1 r1 => p1 M H1 v Q c1.al r1 fun u d H3 p e r3 => q u d H3 p (c1.same e) (e1.trans (StepB.of e)) r3
/-- and, or, not of bools, as values -/
theorem ev_and (h : Ev F ta δ fun d => ∃ b, d = .bl b ∧ (b = true → Ev F tb δ P) ∧ (b = false → P (.bl false))) : Ev F (tAndV ta tb) δ P := fun M σ H Q c q =>
  h M σ H _ c fun v x H1 p1 c1 e1 r1 => by
    obtain ⟨b, rfl, h1, h2⟩ := p1
    cases r1
    refine ⟨b, rfl, ?_⟩
    cases b with
    | true => exact h1 rfl M σ H1 Q c1 fun u d H2 p c2 e2 r2 => q u d H2 p c2 (e1.trans e2) r2
    | false => exact q _ _ H1 (h2 rfl) c1 e1 (.bl false)
theorem ev_or (h : Ev F ta δ fun d => ∃ b, d = .bl b ∧ (b = false → Ev F tb δ P) ∧ (b = true → P (.bl true))) : Ev F (tOrV ta tb) δ P := fun M σ H Q c q =>
  h M σ H _ c fun v x H1 p1 c1 e1 r1 => by
    obtain ⟨b, rfl, h1, h2⟩ := p1
    cases r1
    refine ⟨b, rfl, ?_⟩
    cases b with
    | false => exact h1 rfl M σ H1 Q c1 fun u d H2 p c2 e2 r2 => q u d H2 p c2 (e1.trans e2) r2
    | true => exact q _ _ H1 (h2 rfl) c1 e1 (.bl true)
theorem ev_not (h : Ev F ta δ fun d => ∃ b, d = .bl b ∧ P (.bl (!b))) : Ev F (tNotV ta) δ P := fun M σ H Q c q =>
  h M σ H _ c fun v x H1 p1 c1 e1 r1 => by
    obtain ⟨b, rfl, pb⟩ := p1
    cases r1
    exact ⟨b, rfl, q _ _ H1 pb c1 e1 (.bl _)⟩
theorem ev_if (h : EvT F tt δ fun b => (b = true → Ev F ta δ P) ∧ (b = false → Ev F tb δ P)) : Ev F (tIf tt ta tb) δ P := fun M σ H Q c q =>
  h M σ H _ c fun b H1 pb c1 e1 => by
    cases b with
    | true => exact pb.1 rfl M σ H1 Q c1 fun u d H2 p c2 e2 r2 => q u d H2 p c2 (e1.trans e2) r2
    | false => exact pb.2 rfl M σ H1 Q c1 fun u d H2 p c2 e2 r2 => q u d H2 p c2 (e1.trans e2) r2
/-- a op1 b op2 c -/
theorem ev_chain {r r' : R2} (h : Ev F ta δ fun x => Ev F tb δ fun y => OpD F.K r x y fun z => ∃ b, z = .bl b ∧ (b = true → Ev F tc δ fun w => OpD F.K r' y w P) ∧ (b = false → P (.bl false))) : Ev F (tChain r r' ta tb tc) δ P := fun M σ H Q c q =>
  by
  refine h M σ H _ c fun v x H1 p1 c1 e1 r1 => ?_
  refine p1 M σ H1 _ c1 fun w y H2 p2 c2 e2 r2 => ?_
  refine p2 M H2 v w _ c2.al (r1.mono (hd_step c1 e2)) r2 fun u d H3 p e r3 => ?_
  obtain ⟨b, rfl, h1, h2⟩ := p
  cases r3
  refine ⟨b, rfl, ?_⟩
  cases b with
  | false => exact q _ _ H3 (h2 rfl) (c2.same e) ((e1.trans e2).trans (StepB.of e)) (.bl false)
  | true =>
    rw [if_pos rfl]
    refine h1 rfl M σ H3 _ (c2.same e) fun u4 d4 H4 p4 c4 e4 r4 => ?_
    refine p4 M H4 w u4 Q c4.al (r2.mono ((same_hdM e).trans (hd_step (c2.same e) e4))) r4 fun u5 d5 H5 p5 e5 r5 => ?_
    exact q u5 d5 H5 p5 (c4.same e5) (((e1.trans e2).trans (StepB.of e)).trans (e4.trans (StepB.of e5))) r5
/-! tests -/
theorem et_test (h : Ev F te δ fun d => ∃ b, d = .bl b ∧ PT b) : EvT F (tTest te) δ PT := fun M σ H Q c q =>
  h M σ H _ c fun v x H1 p1 c1 e1 r1 => by
    obtain ⟨b, rfl, pb⟩ := p1
    cases r1
    exact ⟨b, rfl, q b H1 pb c1 e1⟩
theorem et_B (h : Ev F te δ fun d => ∃ b, d = .bl b ∧ PT b) : EvT F (tB te) δ PT := fun M σ H Q c q =>
  h M σ H _ c fun v x H1 p1 c1 e1 r1 => by
    obtain ⟨b, rfl, pb⟩ := p1
    cases r1
    exact ⟨b, rfl, q b H1 pb c1 e1⟩
theorem et_and (h : EvT F tt δ fun b => (b = true → EvT F tu δ PT) ∧ (b = false → PT false)) : EvT F (tAnd tt tu) δ PT := fun M σ H Q c q =>
  h M σ H _ c fun b H1 pb c1 e1 => by
    cases b with
    | true => exact pb.1 rfl M σ H1 Q c1 fun b2 H2 p c2 e2 => q b2 H2 p c2 (e1.trans e2)
    | false => exact q false H1 (pb.2 rfl) c1 e1
theorem et_or (h : EvT F tt δ fun b => (b = false → EvT F tu δ PT) ∧ (b = true → PT true)) : EvT F (tOr tt tu) δ PT := fun M σ H Q c q =>
  h M σ H _ c fun b H1 pb c1 e1 => by
    cases b with
    | false => exact pb.1 rfl M σ H1 Q c1 fun b2 H2 p c2 e2 => q b2 H2 p c2 (e1.trans e2)
    | true => exact q true H1 (pb.2 rfl) c1 e1
theorem et_not (h : EvT F tt δ fun b => PT (!b)) : EvT F (tNot tt) δ PT := fun M σ H Q c q =>
  h M σ H _ c fun b H1 pb c1 e1 => q (!b) H1 pb c1 e1
theorem et_yes (p : PT true) : EvT F tYes δ PT := fun M σ H Q c q => q true H p c (StepB.refl _ _)
/-! lists of values -/
theorem ea_nil (p : PA []) : EvA F tNil δ PA := fun M σ H Q c q => q [] [] H p c (StepB.refl _ _) .nil
theorem ea_cons {tr : TA} (h : Ev F te δ fun x => EvA F tr δ fun r => PA (x :: r)) : EvA F (tCons te tr) δ PA := fun M σ H Q c q =>
  h M σ H _ c fun v x H1 p1 c1 e1 r1 => p1 M σ H1 _ c1 fun vs ds H2 p2 c2 e2 r2 => q _ (x :: ds) H2 p2 c2 (e1.trans e2) (.cons (r1.mono (hd_step c1 e2)) r2)
theorem ev_tup {ta : TA} (h : EvA F ta δ fun ds => ds.length ≤ 100000 ∧ P (.tup ds)) : Ev F (tTup ta) δ P := fun M σ H Q c q =>
  h M σ H _ c fun vs ds H1 p1 c1 e1 r1 => ⟨by rw [r1.length]; exact sz_of p1.1, fun p hp =>
    q _ (.tup ds) _ p1.2 (c1.same (same_new hp)) (e1.trans (StepB.of (same_new hp))) (.tup (SqT.of (hd_new c1.al hp)) (r1.mono (same_hdM (same_new hp))))⟩
theorem ev_lst {ta : TA} (h : EvA F ta δ fun ds => ds.length ≤ 100000 ∧ P (.lst ds)) : Ev F (tLst ta) δ P := fun M σ H Q c q =>
  h M σ H _ c fun vs ds H1 p1 c1 e1 r1 => ⟨by rw [r1.length]; exact sz_of p1.1, fun p hp =>
    q _ (.lst ds) _ p1.2 (c1.same (same_new hp)) (e1.trans (StepB.of (same_new hp))) (.lst (hd_new c1.al hp) (r1.mono (same_hdM (same_new hp))))⟩
theorem ev_cb {r : List V → Hp → VK → Prop} {ta : TA} (h : EvA F ta δ fun ds => CallD F.K r ds P) : Ev F (tCB r ta) δ P := fun M σ H Q c q =>
  h M σ H _ c fun vs ds H1 p1 c1 e1 r1 => p1 M H1 vs Q c1.al r1 fun u d H2 p e r2 => q u d H2 p (c1.same e) (e1.trans (StepB.of e)) r2
end
/-! ### operations on data -/
section
variable {K : PySem.W.Frag} {P : D → Prop} {i j : Int}
theorem od_I0 {g : Int → Int → V} {d : D} (hr : ∀ H, Rep K H (g i j) d) (p : P d) : OpD K (rI0 g) (.int i) (.int j) P := fun M H v w Q al r1 r2 q => by
  cases r1
  cases r2
  exact ⟨i, j, rfl, rfl, q _ d H p (Same.refl H) (hr _)⟩
theorem od_I {C : Int → Int → Prop} {g : Int → Int → V} {d : D} (hc : C i j) (hr : ∀ H, Rep K H (g i j) d) (p : P d) : OpD K (rI C g) (.int i) (.int j) P := fun M H v w Q al r1 r2 q => by
  cases r1
  cases r2
  exact ⟨i, j, rfl, rfl, hc, q _ d H p (Same.refl H) (hr _)⟩
theorem od_int {g : Int → Int → Int} (p : P (.int (g i j))) : OpD K (rI0 fun i j => .int (g i j)) (.int i) (.int j) P := od_I0 (fun _ => .int _) p
theorem od_bl {g : Int → Int → Bool} (p : P (.bl (g i j))) : OpD K (rI0 fun i j => .bl (g i j)) (.int i) (.int j) P := od_I0 (fun _ => .bl _) p
theorem od_intC {C : Int → Int → Prop} {g : Int → Int → Int} (hc : C i j) (p : P (.int (g i j))) : OpD K (rI C fun i j => .int (g i j)) (.int i) (.int j) P := od_I hc (fun _ => .int _) p
end
end Pf

namespace Pf
open PySem L2 RZ

/-! ### statements on data -/
structure PD where
  nx : List SD → Prop
  rt : D → Prop := fun _ => False
  bk : List SD → Prop := fun _ => False
  ct : List SD → Prop := fun _ => False
def Do (F : Fm) (ts : TS) (δ : List SD) (P : PD) : Prop := ∀ M σ H (E : Ends), Ctx F M σ H δ →
  (∀ M' σ' H' δ', P.nx δ' → Ctx F M' σ' H' δ' → Same (hd M H) (hd M' H') → E.nx σ' H') →
  (∀ v d M' σ' H' δ', P.rt d → Ctx F M' σ' H' δ' → Same (hd M H) (hd M' H') → Rep F.K (hd M' H') v d → E.rt v H') →
  (∀ M' σ' H' δ', P.bk δ' → Ctx F M' σ' H' δ' → Same (hd M H) (hd M' H') → E.bk σ' H') →
  (∀ M' σ' H' δ', P.ct δ' → Ctx F M' σ' H' δ' → Same (hd M H) (hd M' H') → E.ct σ' H') → ts E σ H
/-- a target -/
def TgD (F : Fm) (g : TG) (js : List Nat) (x : D) (δ : List SD) (R : List SD → Prop) : Prop := ∀ M σ H v (Q : L2.St → Hp → Prop), Ctx F M σ H δ → Rep F.K (hd M H) v x →
  (∀ σ' H' δ', R δ' → Ctx F M σ' H' δ' → StepB F.mv H H' → (∀ vs : List Nat, (∀ j ∈ js, j ∈ vs) → wipe σ' vs = wipe σ vs) → Q σ' H') → g v σ H Q
def TgsD (F : Fm) (g : TGs) (js : List Nat) (x : List D) (δ : List SD) (R : List SD → Prop) : Prop := ∀ M σ H v (Q : L2.St → Hp → Prop), Ctx F M σ H δ → RepL F.K (hd M H) v x →
  (∀ σ' H' δ', R δ' → Ctx F M σ' H' δ' → StepB F.mv H H' → (∀ vs : List Nat, (∀ j ∈ js, j ∈ vs) → wipe σ' vs = wipe σ vs) → Q σ' H') → g v σ H Q
/-- what is walked -/
def WalkD (F : Fm) (J : It) (M : Addr → Bool) (H : Hp) (xs : List D) : Prop := ∃ (G : Hp → Prop) (Y : Nat → Hp → V → Hp → Prop), Walk J xs.length G Y ∧
  (∀ M2 H2, Same (hd M H) (hd M2 H2) → StepB F.mv F.H0 H2 → G H2) ∧ ∀ M2 H2 i x H3, Al M2 H2 → Same (hd M H) (hd M2 H2) → Y i H2 x H3 → Same H2 H3 ∧ ∃ d, xs[i]? = some d ∧ Rep F.K (hd M2 H3) x d
def ItD (F : Fm) (wi : TI) (δ : List SD) (PX : List D → Prop) : Prop := ∀ M σ H (R : It → Hp → Prop), Ctx F M σ H δ →
  (∀ J xs H', PX xs → Ctx F M σ H' δ → StepB F.mv H H' → WalkD F J M H' xs → R J H') → wi σ H R
section
variable {F : Fm} {δ : List SD} {ta tb tc te : TE} {t u ts : TS} {tt tu : TT} {P : D → Prop} {PX : List D → Prop} {R : PD} {M : Addr → Bool} {σ : L2.St} {H H' : Hp} {g : TG} {gs : TGs} {wi : TI}
theorem Do.imp {R' : PD} (h : Do F t δ R) (h1 : ∀ δ', R.nx δ' → R'.nx δ') (h2 : ∀ d, R.rt d → R'.rt d) (h3 : ∀ δ', R.bk δ' → R'.bk δ') (h4 : ∀ δ', R.ct δ' → R'.ct δ') : Do F t δ R' := fun M σ H E c a b k d =>
  h M σ H E c (fun M' σ' H' δ' p => a M' σ' H' δ' (h1 _ p)) (fun v d M' σ' H' δ' p => b v d M' σ' H' δ' (h2 _ p)) (fun M' σ' H' δ' p => k M' σ' H' δ' (h3 _ p)) (fun M' σ' H' δ' p => d M' σ' H' δ' (h4 _ p))
theorem do_seq (h : Do F t δ { R with nx := fun δ' => Do F u δ' R }) : Do F (tSeq t u) δ R := fun M σ H E c a b k d =>
  h M σ H { E with nx := u E } c (fun M' σ' H' δ' p c' s => p M' σ' H' E c' (fun M2 σ2 H2 δ2 p2 c2 s2 => a M2 σ2 H2 δ2 p2 c2 (s.trans s2)) (fun v x M2 σ2 H2 δ2 p2 c2 s2 => b v x M2 σ2 H2 δ2 p2 c2 (s.trans s2))
    (fun M2 σ2 H2 δ2 p2 c2 s2 => k M2 σ2 H2 δ2 p2 c2 (s.trans s2)) (fun M2 σ2 H2 δ2 p2 c2 s2 => d M2 σ2 H2 δ2 p2 c2 (s.trans s2))) b k d
theorem do_next (p : R.nx δ) : Do F tNext δ R := fun M σ H E c a b k d => a M σ H δ p c (Same.refl _)
theorem do_ret (h : Ev F te δ R.rt) : Do F (tRet te) δ R := fun M σ H E c a b k d =>
  h M σ H _ c fun v x H1 p c1 e r => b v x M σ H1 δ p c1 (hd_step c e) r
theorem do_retN (p : R.rt .non) : Do F tRetN δ R := fun M σ H E c a b k d => b _ _ M σ H δ p c (Same.refl _) .non
theorem do_drop (h : Ev F te δ fun _ => R.nx δ) : Do F (tDrop te) δ R := fun M σ H E c a b k d =>
  h M σ H _ c fun v x H1 p c1 e r => a M σ H1 δ p c1 (hd_step c e)
theorem do_set {i : Nat} (h : Ev F te δ fun x => R.nx (δ.set i (.dat x))) : Do F (tAsg te (gName i)) δ R := fun M σ H E c a b k d =>
  h M σ H _ c fun v x H1 p c1 e r => a M _ H1 _ p (c1.set i r) (hd_step c e)
theorem do_asg {js : List Nat} (h : Ev F te δ fun x => TgD F g js x δ R.nx) : Do F (tAsg te g) δ R := fun M σ H E c a b k d =>
  h M σ H _ c fun v x H1 p c1 e r => p M σ H1 v _ c1 r fun σ2 H2 δ2 p2 c2 e2 _ => a M σ2 H2 δ2 p2 c2 ((hd_step c e).trans (hd_step c1 e2))
theorem do_if (h : EvT F tt δ fun b => (b = true → Do F t δ R) ∧ (b = false → Do F u δ R)) : Do F (tIfS tt t u) δ R := fun M σ H E c a b k d =>
  h M σ H _ c fun y H1 p c1 e => by
    have s := hd_step c e
    cases y with
    | true =>
      exact p.1 rfl M σ H1 E c1 (fun M2 σ2 H2 δ2 p2 c2 s2 => a M2 σ2 H2 δ2 p2 c2 (s.trans s2)) (fun v x M2 σ2 H2 δ2 p2 c2 s2 => b v x M2 σ2 H2 δ2 p2 c2 (s.trans s2))
        (fun M2 σ2 H2 δ2 p2 c2 s2 => k M2 σ2 H2 δ2 p2 c2 (s.trans s2)) (fun M2 σ2 H2 δ2 p2 c2 s2 => d M2 σ2 H2 δ2 p2 c2 (s.trans s2))
    | false =>
      exact p.2 rfl M σ H1 E c1 (fun M2 σ2 H2 δ2 p2 c2 s2 => a M2 σ2 H2 δ2 p2 c2 (s.trans s2)) (fun v x M2 σ2 H2 δ2 p2 c2 s2 => b v x M2 σ2 H2 δ2 p2 c2 (s.trans s2))
        (fun M2 σ2 H2 δ2 p2 c2 s2 => k M2 σ2 H2 δ2 p2 c2 (s.trans s2)) (fun M2 σ2 H2 δ2 p2 c2 s2 => d M2 σ2 H2 δ2 p2 c2 (s.trans s2))
/-! targets -/
theorem wipe_set {j : Nat} {s : Option V} : ∀ {vs : List Nat}, j ∈ vs → wipe (σ.set j s) vs = wipe σ vs
  | [], h => by cases h
  | v :: vs, h => by
    show (wipe (σ.set j s) vs).set v none = (wipe σ vs).set v none
    by_cases hv : j = v
    · subst hv
      have key : ∀ ws : List Nat, (wipe (σ.set j s) ws).set j none = (wipe σ ws).set j none := by
        intro ws
        induction ws with
        | nil =>
          show (σ.set j s).set j none = σ.set j none
          rw [List.set_set]
        | cons w ws ih =>
          show ((wipe (σ.set j s) ws).set w none).set j none = ((wipe σ ws).set w none).set j none
          by_cases hw : w = j
          · subst hw
            rw [List.set_set, List.set_set, ih]
          · rw [List.set_comm _ _ hw, List.set_comm _ _ hw, ih]
      exact key vs
    · have : j ∈ vs := by
        rcases List.mem_cons.mp h with h | h
        · exact absurd h hv
        · exact h
      rw [wipe_set this]
theorem tg_name {i : Nat} {x : D} {Q : List SD → Prop} (p : Q (δ.set i (.dat x))) : TgD F (gName i) [i] x δ Q := fun M σ H v R c r q =>
  q _ H _ p (c.set i r) (StepB.refl _ _) fun vs h => wipe_set (h i (by simp))
theorem tgs_nil {Q : List SD → Prop} (p : Q δ) : TgsD F gNil [] [] δ Q := fun M σ H v R c r q => by
  cases r
  exact ⟨rfl, q σ H δ p c (StepB.refl _ _) fun vs _ => rfl⟩
theorem tgs_cons {js ks : List Nat} {x : D} {xs : List D} {Q : List SD → Prop} (h : TgD F g js x δ fun δ' => TgsD F gs ks xs δ' Q) : TgsD F (gCons g gs) (js ++ ks) (x :: xs) δ Q := fun M σ H v R c r q => by
  cases r with
  | cons r1 r2 =>
    refine ⟨_, _, rfl, h M σ H _ _ c r1 fun σ1 H1 δ1 p1 c1 e1 w1 => ?_⟩
    refine p1 M σ1 H1 _ _ c1 (r2.mono (hd_step c e1)) fun σ2 H2 δ2 p2 c2 e2 w2 => ?_
    refine q σ2 H2 δ2 p2 c2 (e1.trans e2) fun vs h => ?_
    rw [w2 vs fun j hj => h j (List.mem_append_right _ hj), w1 vs fun j hj => h j (List.mem_append_left _ hj)]
theorem tg_tup {n : Nat} {js : List Nat} {xs : List D} {Q : List SD → Prop} (hn : xs.length = n) (h : TgsD F gs js xs δ Q) : TgD F (gTup F.K n gs) js (.tup xs) δ Q := fun M σ H v R c r q => by
  cases r with
  | tup h1 h2 => exact ⟨_, _, rfl, same_tup (same_hd M H) h1, by rw [h2.length, hn], h M σ H _ _ c h2 q⟩
/-! walks -/
theorem walkD_list {F : Fm} {a : Addr} {xs : List V} {ds : List D} (h : hd M H a = some (.lst xs)) (r : RepL F.K (hd M H) xs ds) : WalkD F (Itl F.K a) M H ds := by
  refine ⟨fun H => SqL F.K H a xs, YAt xs, by rw [← r.length]; exact walk_list, fun M2 H2 e _ => SqL.of (hd_of (e _ _ h)).2, fun M2 H2 i x H3 al e y => ?_⟩
  obtain ⟨rfl, y⟩ := y
  obtain ⟨d, h1, h2⟩ := r.getV y
  exact ⟨Same.refl _, d, h1, h2.mono e⟩
theorem it_list (h : Ev F te δ fun d => ∃ ds, d = .lst ds ∧ PX ds) : ItD F (iList F.K te) δ PX := fun M σ H R c q =>
  h M σ H _ c fun v d H1 p c1 e r => by
    obtain ⟨ds, rfl, p⟩ := p
    cases r with
    | lst h1 h2 => exact ⟨_, rfl, ⟨_, SqL.of (hd_of h1).2⟩, q _ ds H1 p c1 e (walkD_list h1 h2)⟩
theorem walkD_tup {F : Fm} {a : Addr} {xs : List V} {ds : List D} (h : SqT F.K (hd M H) a xs) (r : RepL F.K (hd M H) xs ds) : WalkD F (Itt F.K a) M H ds := by
  refine ⟨fun H => SqT F.K H a xs, YAt xs, by rw [← r.length]; exact walk_tup, fun M2 H2 e _ => same_tup (e.trans (same_hd M2 H2)) h, fun M2 H2 i x H3 al e y => ?_⟩
  obtain ⟨rfl, y⟩ := y
  obtain ⟨d, h1, h2⟩ := r.getV y
  exact ⟨Same.refl _, d, h1, h2.mono e⟩
/-- lo, lo + 1, .. -/
def upto (lo : Int) (n : Nat) : List D := (List.range n).map fun i => .int (lo + (i : Nat))
theorem upto_len {lo : Int} {n : Nat} : (upto lo n).length = n := by simp [upto]
theorem upto_get {lo : Int} {n i : Nat} {d : D} (h : (upto lo n)[i]? = some d) : i < n ∧ d = .int (lo + (i : Nat)) := by
  have hi := (List.getElem?_eq_some_iff.mp h).1
  rw [upto_len] at hi
  refine ⟨hi, ?_⟩
  unfold upto at h
  rw [List.getElem?_map, List.getElem?_range hi] at h
  exact (Option.some.inj h).symm
theorem walkD_range {F : Fm} {lo : Int} {n : Nat} : WalkD F (Itr lo n) M H (upto lo n) := by
  refine ⟨fun _ => True, fun i H x H' => i < n ∧ H' = H ∧ x = .int (lo + i), ?_, fun _ _ _ _ => trivial, fun M2 H2 i x H3 al e y => ?_⟩
  · rw [upto_len]
    exact ⟨fun _ _ hi _ => hi, fun _ _ => Nat.le_refl _, fun _ _ _ _ hi _ y => ⟨hi, y⟩⟩
  · obtain ⟨hi, rfl, rfl⟩ := y
    refine ⟨Same.refl _, .int (lo + (i : Nat)), ?_, .int _⟩
    unfold upto
    rw [List.getElem?_map, List.getElem?_range hi]
    rfl
theorem it_range1 {ta : TA} (h : EvA F ta δ fun l => ∃ n : Int, l = [.int n] ∧ -1000000 ≤ n ∧ n ≤ 1000000 ∧ PX (upto 0 n.toNat)) : ItD F (iRng1 ta) δ PX := fun M σ H R c q =>
  h M σ H _ c fun vs ds H1 p c1 e r => by
    obtain ⟨n, rfl, h1, h2, p⟩ := p
    cases r with
    | cons r1 r2 =>
      cases r1
      cases r2
      exact ⟨n, rfl, by omega, by omega, q _ _ H1 p c1 e walkD_range⟩
/-- the signs of a text -/
def signs (z : Str) : List D := z.cps.toList.map fun c => .str ⟨#[c]⟩
theorem it_str (h : Ev F te δ fun d => ∃ z, d = .str z ∧ PX (signs z)) : ItD F (iStr te) δ PX := fun M σ H R c q =>
  h M σ H _ c fun v d H1 p c1 e r => by
    obtain ⟨z, rfl, p⟩ := p
    cases r
    refine ⟨z, rfl, q _ _ H1 p c1 e ⟨fun _ => True, fun i H v H' => H' = H ∧ ∃ c, z.cps[i]? = some c ∧ v = .str ⟨#[c]⟩, ?_, fun _ _ _ _ => trivial, fun M2 H2 i x H3 al e y => ?_⟩⟩
    · have := walk_str (z := z)
      have l : (signs z).length = z.cps.size := by simp [signs]
      rw [l]
      exact this
    · obtain ⟨rfl, c, h1, rfl⟩ := y
      refine ⟨Same.refl _, .str ⟨#[c]⟩, ?_, .str _⟩
      unfold signs
      rw [List.getElem?_map]
      have : z.cps.toList[i]? = some c := by simpa using h1
      rw [this]
      rfl
/-- pairs -/
def pairs (xs ys : List D) : List D := (xs.zip ys).map fun p => .tup [p.1, p.2]
theorem pair_ok {K : PySem.W.Frag} {M2 : Addr → Bool} {H2 : Hp} {T : Addr} {x y : V} {d e : D} (al : Al M2 H2) (hT : H2 T = none) (r1 : Rep K (hd M2 H2) x d) (r2 : Rep K (hd M2 H2) y e) : Rep K (hd M2 (upd H2 T (.tup [x, y]))) (.ref T) (.tup [d, e]) :=
  .tup (SqT.of (hd_new al hT)) (.cons (r1.mono (same_hdM (same_new hT))) (.cons (r2.mono (same_hdM (same_new hT))) .nil))
theorem walkD_zip {F : Fm} {a b : Addr} {xs ys : List V} {ds es : List D} (h : hd M H a = some (.lst xs)) (r : RepL F.K (hd M H) xs ds) (h' : hd M H b = some (.lst ys)) (r' : RepL F.K (hd M H) ys es) : WalkD F (Itz F.K a b) M H (pairs ds es) := by
  refine ⟨_, _, walk_zip (xs := xs) (ys := ys) ?_, fun M2 H2 e _ => ⟨SqL.of (hd_of (e _ _ h)).2, SqL.of (hd_of (e _ _ h')).2⟩, fun M2 H2 i x H3 al e y => ?_⟩
  · unfold pairs
    rw [List.length_map, List.length_zip, r.length, r'.length]
  · obtain ⟨T, v, w, rfl, hT, rfl, h1, h2⟩ := y
    obtain ⟨d, e1, r1⟩ := r.getV h1
    obtain ⟨f, e2, r2⟩ := r'.getV h2
    refine ⟨same_new hT, .tup [d, f], ?_, pair_ok al hT (r1.mono e) (r2.mono e)⟩
    unfold pairs
    rw [List.getElem?_map, List.getElem?_zip_eq_some (z := (d, f)) |>.mpr ⟨e1, e2⟩]
    rfl
theorem walk_zipT {K : PySem.W.Frag} {a b : Addr} {xs ys : List V} {n : Nat} (hn : n = min xs.length ys.length) : Walk (ItzT K a b) n (fun H => SqT K H a xs ∧ SqT K H b ys) (YPair (fun i => xs[i]?) (fun i => ys[i]?)) := by
  subst hn
  refine ⟨fun i _ hi q => ?_, fun _ q => ⟨xs, ys, q.1, q.2, by omega⟩, fun i H v H' _ q y => ?_⟩
  · have h1 : i < xs.length := by omega
    have h2 : i < ys.length := by omega
    exact ⟨xs, ys, xs[i], ys[i], q.1, q.2, by simp [h1], by simp [h2]⟩
  · obtain ⟨T, x, z, h1, h2, h3, h4, h5⟩ := y
    exact ⟨T, x, z, h1, h2, h3, h4 xs q.1, h5 ys q.2⟩
theorem walkD_zipT {F : Fm} {a b : Addr} {xs ys : List V} {ds es : List D} (h : SqT F.K (hd M H) a xs) (r : RepL F.K (hd M H) xs ds) (h' : SqT F.K (hd M H) b ys) (r' : RepL F.K (hd M H) ys es) : WalkD F (ItzT F.K a b) M H (pairs ds es) := by
  refine ⟨_, _, walk_zipT (xs := xs) (ys := ys) ?_, fun M2 H2 e _ => ⟨same_tup (e.trans (same_hd M2 H2)) h, same_tup (e.trans (same_hd M2 H2)) h'⟩, fun M2 H2 i x H3 al e y => ?_⟩
  · unfold pairs
    rw [List.length_map, List.length_zip, r.length, r'.length]
  · obtain ⟨T, v, w, rfl, hT, rfl, h1, h2⟩ := y
    obtain ⟨d, e1, r1⟩ := r.getV h1
    obtain ⟨f, e2, r2⟩ := r'.getV h2
    refine ⟨same_new hT, .tup [d, f], ?_, pair_ok al hT (r1.mono e) (r2.mono e)⟩
    unfold pairs
    rw [List.getElem?_map, List.getElem?_zip_eq_some (z := (d, f)) |>.mpr ⟨e1, e2⟩]
    rfl
/-- of two lists, of two tuples -/
theorem it_zipA {ta : TA} (h : EvA F ta δ fun l => ∃ xs ys, (l = [.lst xs, .lst ys] ∨ l = [.tup xs, .tup ys]) ∧ PX (pairs xs ys)) : ItD F (iZipA F.K ta) δ PX := fun M σ H R c q =>
  h M σ H _ c fun vs ds H1 p c1 e r => by
    obtain ⟨xs, ys, hl, p⟩ := p
    rcases hl with rfl | rfl
    · cases r with
      | cons r1 r2 =>
        cases r2 with
        | cons r2 r3 =>
          cases r3
          cases r1 with
          | lst h1 h2 =>
            cases r2 with
            | lst h3 h4 => exact ⟨_, _, _, _, rfl, .inl ⟨SqL.of (hd_of h1).2, SqL.of (hd_of h3).2, q _ _ H1 p c1 e (walkD_zip h1 h2 h3 h4)⟩⟩
    · cases r with
      | cons r1 r2 =>
        cases r2 with
        | cons r2 r3 =>
          cases r3
          cases r1 with
          | tup h1 h2 =>
            cases r2 with
            | tup h3 h4 => exact ⟨_, _, _, _, rfl, .inr ⟨same_tup (same_hd M H1) h1, same_tup (same_hd M H1) h3, q _ _ H1 p c1 e (walkD_zipT h1 h2 h3 h4)⟩⟩
/-- enumerate -/
def numbered (xs : List D) : List D := (List.range xs.length).map fun i => .tup [.int (i : Nat), xs.getD i .non]
/-! for -/
theorem do_for {js : List Nat} (hw : ItD F wi δ PX) (I : List D → Nat → List SD → Prop) (h0 : ∀ xs, PX xs → I xs 0 δ)
    (hs : ∀ xs i x δ', PX xs → xs[i]? = some x → I xs i δ' → TgD F g js x δ' fun δ2 => Do F t δ2 { nx := I xs (i + 1), ct := I xs (i + 1), bk := R.nx, rt := R.rt })
    (he : ∀ xs δ', PX xs → I xs xs.length δ' → R.nx δ') : Do F (tFor wi g t) δ R := fun M σ H E c a b k d => by
  refine hw M σ H _ c fun J xs H1 px c1 e1 wd => ?_
  obtain ⟨G, Y, w, wg, wy⟩ := wd
  have s1 := hd_step c e1
  refine for_it w (fun i σ' H' => ∃ M' δ', I xs i δ' ∧ Ctx F M' σ' H' δ' ∧ Same (hd M H1) (hd M' H')) ⟨M, δ, h0 xs px, c1, Same.refl _⟩ (fun i σ' H' _ ⟨M', δ', _, c', s⟩ => wg M' H' s c'.fr) ?_ ?_
  · rintro i x σ' H' H2 hi ⟨M', δ', hI, c', s⟩ y
    obtain ⟨s2, dx, h1, r⟩ := wy M' H' i x H2 c'.al s y
    have c2 := c'.same s2
    refine hs xs i dx δ' px h1 hI M' σ' H2 x _ c2 r fun σ3 H3 δ3 p3 c3 e3 _ => ?_
    have s3 : Same (hd M H1) (hd M' H3) := s.trans ((same_hdM s2).trans (hd_step c2 e3))
    refine p3 M' σ3 H3 _ c3 (fun M4 σ4 H4 δ4 p4 c4 s4 => ⟨M4, δ4, p4, c4, s3.trans s4⟩) (fun v y M4 σ4 H4 δ4 p4 c4 s4 r4 => b v y M4 σ4 H4 δ4 p4 c4 ((s1.trans s3).trans s4) r4)
      (fun M4 σ4 H4 δ4 p4 c4 s4 => a M4 σ4 H4 δ4 p4 c4 ((s1.trans s3).trans s4)) (fun M4 σ4 H4 δ4 p4 c4 s4 => ⟨M4, δ4, p4, c4, s3.trans s4⟩)
  · rintro σ' H' ⟨M', δ', hI, c', s⟩
    exact a M' σ' H' δ' (he xs δ' px hI) c' (s1.trans s)
end

/-! ### a list of one's own -/
def hid (M : Addr → Bool) (p : Addr) : Addr → Bool := fun a => if a = p then true else M a
theorem hid_same {M : Addr → Bool} {p : Addr} : hid M p p = true := if_pos rfl
theorem hid_ne {M : Addr → Bool} {p a : Addr} (h : a ≠ p) : hid M p a = M a := if_neg h
theorem hid_le {M : Addr → Bool} {p : Addr} : ∀ a, M a = true → hid M p a = true := fun a h => by
  unfold hid
  split
  · rfl
  · exact h
def shw (M : Addr → Bool) (p : Addr) : Addr → Bool := fun a => if a = p then false else M a
theorem shw_same {M : Addr → Bool} {p : Addr} : shw M p p = false := if_pos rfl
theorem shw_ne {M : Addr → Bool} {p a : Addr} (h : a ≠ p) : shw M p a = M a := if_neg h
theorem shw_le {M : Addr → Bool} {p : Addr} : ∀ a, shw M p a = true → M a = true := fun a h => by
  by_cases e : a = p
  · subst e
    rw [shw_same] at h
    cases h
  · rw [shw_ne e] at h
    exact h
theorem hd_upd {M : Addr → Bool} {H : Hp} {p : Addr} {o : HO} (h : M p = true) : hd M (upd H p o) = hd M H := by
  funext a
  unfold hd
  by_cases e : a = p
  · subst e
    rw [h, if_pos rfl, if_pos rfl]
  · rw [upd_ne e]
section
variable {F : Fm} {M : Addr → Bool} {σ : L2.St} {H H' : Hp} {δ : List SD}
theorem set_key {i j : Nat} {x y : SD} (hx : (δ.set i y)[j]? = some x) : (i = j ∧ x = y ∧ i < δ.length) ∨ (i ≠ j ∧ δ[j]? = some x) := by
  by_cases hj : i = j
  · subst hj
    rw [List.getElem?_set] at hx
    rw [if_pos rfl] at hx
    split at hx
    · exact .inl ⟨rfl, (Option.some.inj hx).symm, by assumption⟩
    · cases hx
  · rw [List.getElem?_set_ne hj] at hx
    exact .inr ⟨hj, hx⟩
/-- p, which no own slot is, is shown no more | shown again -/
theorem nx_hid {M : Addr → Bool} {H : Hp} {p : Addr} {o : HO} (n : NX M H) (hp : H p = none) (nx : ∀ φ, o ≠ .ext φ) : NX (hid M p) (upd H p o) := fun a φ m z => by
  by_cases e : a = p
  · subst e
    rw [upd_same] at z
    exact nx φ (Option.some.inj z)
  · rw [hid_ne e] at m
    rw [upd_ne e] at z
    exact n a φ m z
theorem Ctx.hide (c : Ctx F M σ H δ) {p : Addr} (hp : H p = none) {o : HO} (nx : ∀ φ, o ≠ .ext φ := by (intro φ z; cases z)) : Ctx F (hid M p) σ (upd H p o) δ := by
  have s : Same (hd M H) (hd (hid M p) (upd H p o)) := fun a u e => by
    obtain ⟨m, h⟩ := hd_of e
    have n : a ≠ p := ne_of_none h hp
    exact hd_at (by rw [hid_ne n]; exact m) (by rw [upd_ne n]; exact h)
  refine ⟨fun a m => ?_, c.al0, fun a m => hid_le a (c.m0 a m), fun a u n h => (same_new hp) a u (c.fr a u n h), ⟨fun b z => (c.bg.1 b z).imp id fun ⟨h1, h2⟩ => ⟨h1.mono (same_new hp), h2⟩, fun r h => (c.bg.2 r h).imp id fun t => ⟨t.1.ext (same_new hp), nx_hid t.2 hp nx⟩⟩, c.ln, fun i x hx => ?_, c.dj, c.oh⟩
  · by_cases e : a = p
    · subst e
      exact ⟨o, upd_same⟩
    · rw [hid_ne e] at m
      obtain ⟨u, h⟩ := c.al a m
      exact ⟨u, by rw [upd_ne e]; exact h⟩
  · obtain ⟨y, h1, h2⟩ := c.sl i x hx
    refine ⟨y, h1, ?_⟩
    cases x with
    | un => trivial
    | dat d =>
      obtain ⟨v, e, r⟩ := h2
      exact ⟨v, e, r.mono s⟩
    | own q ds =>
      obtain ⟨e, m, vs, h3, r⟩ := h2
      exact ⟨e, hid_le q m, vs, same_new hp _ _ h3, r.mono s⟩
    | bag => exact h2
    | sq ds =>
      obtain ⟨q, vs, g1, g2, g3, g4⟩ := h2
      exact ⟨q, vs, g1, g2, g3, g4.mono s⟩
    | sl ds =>
      obtain ⟨q, vs, g1, g2, g3, g4⟩ := h2
      exact ⟨q, vs, g1, g2, g3, g4.mono s⟩
    | oll q qs => exact ⟨h2.1, h2.2.mono (fun a m _ => hid_le a m) (fun a o _ _ _ h => same_new hp a o h) s⟩
theorem Ctx.show' (c : Ctx F (hid M p) σ H δ) (hp : M p = false) (h0 : F.H0 p = none) (no : ∀ (j : Nat) (es : OD), δ[j]? ≠ some (.own p es)) : Ctx F M σ H δ := by
  have n0 : ∀ a, F.M0 a = true → a ≠ p := fun a m e => by
    subst e
    obtain ⟨o, h⟩ := c.al0 _ m
    rw [h0] at h
    cases h
  refine ⟨fun a m => c.al a (hid_le a m), c.al0, fun a m => by rw [← hid_ne (M := M) (n0 a m)]; exact c.m0 a m, c.fr, ⟨c.bg.1, fun r h => (c.bg.2 r h).imp id fun t => ⟨t.1, fun a φ m => t.2 a φ (hid_le a m)⟩⟩, c.ln, fun i x hx => ?_, c.dj, c.oh⟩
  obtain ⟨y, h1, h2⟩ := c.sl i x hx
  refine ⟨y, h1, ?_⟩
  cases x with
  | un => trivial
  | dat d =>
    obtain ⟨v, e, r⟩ := h2
    exact ⟨v, e, r.mono (same_hd_le hid_le)⟩
  | own q ds =>
    obtain ⟨e, m, vs, h3, r⟩ := h2
    have n : q ≠ p := fun z => by
      subst z
      exact no i ds hx
    rw [hid_ne n] at m
    exact ⟨e, m, vs, h3, r.mono (same_hd_le hid_le)⟩
  | bag => exact h2
  | sq ds =>
    obtain ⟨q, vs, g1, g2, g3, g4⟩ := h2
    exact ⟨q, vs, g1, g2, g3, g4.mono (same_hd_le hid_le)⟩
  | sl ds =>
    obtain ⟨q, vs, g1, g2, g3, g4⟩ := h2
    exact ⟨q, vs, g1, g2, g3, g4.mono (same_hd_le hid_le)⟩
  | oll q qs => exact ⟨h2.1, h2.2.mono (fun a m n => by rw [hid_ne (show a ≠ p from fun e => n (by rw [e]; exact h0))] at m; exact m) (fun _ _ _ _ _ h => h) (same_hd_le hid_le)⟩
/-- a slot takes a list of its own -/
theorem Ctx.setOwn (c : Ctx F M σ H δ) (i : Nat) {p : Addr} {vs : HO} {ds : OD} (m : M p = true) (h : H p = some vs) (r : RepO F.K (hd M H) vs ds) (h0 : F.H0 p = none) (hb : ¬ F.mv p)
    (no : ∀ (j : Nat) (es : OD), i ≠ j → δ[j]? ≠ some (.own p es)) : Ctx F M (σ.set i (some (.ref p))) H (δ.set i (.own p ds)) := by
  refine ⟨c.al, c.al0, c.m0, c.fr, c.bg, by rw [List.length_set, List.length_set, c.ln], fun j x hx => ?_, fun j k q es fs h1 h2 => ?_, fun j q es h => ?_⟩
  · rcases set_key hx with ⟨rfl, rfl, hl⟩ | ⟨hj, hx⟩
    · exact ⟨_, by rw [List.getElem?_set_self (by rw [c.ln]; exact hl)], rfl, m, vs, h, r⟩
    · rw [List.getElem?_set_ne hj]
      exact c.sl j x hx
  · rcases set_key h1 with ⟨rfl, z, _⟩ | ⟨hj, h1⟩
    · cases z
      rcases set_key h2 with ⟨rfl, _, _⟩ | ⟨hk, h2⟩
      · rfl
      · exact absurd h2 (no k _ hk)
    · rcases set_key h2 with ⟨rfl, z, _⟩ | ⟨hk, h2⟩
      · cases z
        exact absurd h1 (no j _ hj)
      · exact c.dj j k q es fs h1 h2
  · rcases set_key h with ⟨rfl, z, _⟩ | ⟨hj, h⟩
    · cases z
      exact ⟨h0, hb⟩
    · exact c.oh j q es h
theorem nx_upd {M : Addr → Bool} {H : Hp} {p : Addr} {o : HO} (n : NX M H) (nx : ∀ φ, o ≠ .ext φ) : NX M (upd H p o) := fun a φ m z => by
  by_cases e : a = p
  · subst e
    rw [upd_same] at z
    exact nx φ (Option.some.inj z)
  · rw [upd_ne e] at z
    exact n a φ m z
/-- a hidden list that no slot owns is changed -/
theorem Ctx.poke (c : Ctx F M σ H δ) {p : Addr} {xs ys : HO} (m : M p = true) (hp : H p = some xs) (h0 : F.H0 p = none) (hb : ¬ F.mv p) (no : ∀ (j : Nat) (es : OD), δ[j]? ≠ some (.own p es)) (nx : ∀ φ, xs ≠ .ext φ := by (intro φ z; cases z)) (ny : ∀ φ, ys ≠ .ext φ := by (intro φ z; cases z)) : Ctx F M σ (upd H p ys) δ := by
  have hm : hd M (upd H p ys) = hd M H := hd_upd m
  have bg : ∀ b, F.B = some b → F.M0 b = true ∧ BagAt (upd H p ys) b F.C0 ∧ ∃ o, F.H0 F.C0 = some o := fun b z => by
    obtain ⟨g0, g1, g2⟩ := c.bg.1 b z
    obtain ⟨ns, k, z1, z2, z3, q1, q2, q3, q4⟩ := g1
    have n1 : b ≠ p := fun e => hb (.inl (e ▸ z))
    have n2 : F.C0 ≠ p := fun e => by
      rw [← e] at h0
      obtain ⟨o, g3⟩ := g2
      rw [h0] at g3
      cases g3
    exact ⟨g0, ⟨ns, k, z1, z2, z3, by rw [upd_ne n1]; exact q1, q2, by rw [upd_ne n2]; exact q3, q4⟩, g2⟩
  refine ⟨fun a q => ?_, c.al0, c.m0, fun a o n h => ?_, ⟨bg, fun r h => (c.bg.2 r h).imp id fun t => ⟨tabS_step t.1 (fun ps e => by rw [upd_ne (fun z : r.1 = p => hb (.inr ⟨r, h, z⟩))]; exact e) fun x e => by rw [upd_ne (fun z => nx _ (Option.some.inj (hp.symm.trans (z ▸ e))))]; exact e, nx_upd t.2 ny⟩⟩, c.ln, fun j x hx => ?_, c.dj, c.oh⟩
  · by_cases e : a = p
    · subst e
      exact ⟨_, upd_same⟩
    · rw [upd_ne e]
      exact c.al a q
  · have n2 : a ≠ p := fun e => by
      subst e
      rw [h0] at h
      cases h
    rw [upd_ne n2]
    exact c.fr a o n h
  · obtain ⟨y, g1, g2⟩ := c.sl j x hx
    refine ⟨y, g1, ?_⟩
    cases x with
    | un => trivial
    | dat d =>
      obtain ⟨v, e, r⟩ := g2
      exact ⟨v, e, by rw [hm]; exact r⟩
    | own q fs =>
      obtain ⟨e, mq, us, g3, r⟩ := g2
      have n : q ≠ p := fun z => by
        subst z
        exact no j _ hx
      exact ⟨e, mq, us, by rw [upd_ne n]; exact g3, by rw [hm]; exact r⟩
    | bag => exact g2
    | sq ds =>
      obtain ⟨q, vs, k1, k2, k3, k4⟩ := g2
      exact ⟨q, vs, k1, k2, k3, by rw [hm]; exact k4⟩
    | sl ds =>
      obtain ⟨q, vs, k1, k2, k3, k4⟩ := g2
      exact ⟨q, vs, k1, k2, k3, by rw [hm]; exact k4⟩
    | oll q qs => exact ⟨g2.1, g2.2.mono (fun _ m _ => m) (fun a o _ _ n h => by rw [upd_ne (show a ≠ p from fun e => n (by rw [e]; exact h0))]; exact h) (by rw [hm]; exact Same.refl _)⟩
/-- the own list is changed -/
theorem Ctx.put (c : Ctx F M σ H δ) {i : Nat} {p : Addr} {ds es : OD} {vs : HO} (hi : δ[i]? = some (.own p ds)) (r : RepO F.K (hd M H) vs es) : Ctx F M σ (upd H p vs) (δ.set i (.own p es)) := by
  obtain ⟨y, h1, hy, m, ws, h3, r0⟩ := c.sl i _ hi
  subst hy
  obtain ⟨h0, hb⟩ := c.oh i p ds hi
  have nx : ∀ φ, ws ≠ .ext φ := fun φ z => by
    subst z
    cases r0
  have ny : ∀ φ, vs ≠ .ext φ := fun φ z => by
    subst z
    cases r
  have hm : hd M (upd H p vs) = hd M H := hd_upd m
  have bg : ∀ b, F.B = some b → F.M0 b = true ∧ BagAt (upd H p vs) b F.C0 ∧ ∃ o, F.H0 F.C0 = some o := fun b z => by
    obtain ⟨g0, g1, g2⟩ := c.bg.1 b z
    obtain ⟨ns, k, z1, z2, z3, q1, q2, q3, q4⟩ := g1
    have n1 : b ≠ p := fun e => hb (.inl (e ▸ z))
    have n2 : F.C0 ≠ p := fun e => by
      rw [← e] at h0
      obtain ⟨o, g3⟩ := g2
      rw [h0] at g3
      cases g3
    exact ⟨g0, ⟨ns, k, z1, z2, z3, by rw [upd_ne n1]; exact q1, q2, by rw [upd_ne n2]; exact q3, q4⟩, g2⟩
  refine ⟨fun a q => ?_, c.al0, c.m0, fun a o n h => ?_, ⟨bg, fun r h => (c.bg.2 r h).imp id fun t => ⟨tabS_step t.1 (fun ps e => by rw [upd_ne (fun z : r.1 = p => hb (.inr ⟨r, h, z⟩))]; exact e) fun x e => by rw [upd_ne (fun z => nx _ (Option.some.inj (h3.symm.trans (z ▸ e))))]; exact e, nx_upd t.2 ny⟩⟩, by rw [List.length_set, c.ln], fun j x hx => ?_, fun j k q e1 e2 h1 h2 => ?_, fun j q e1 h => ?_⟩
  · by_cases e : a = p
    · subst e
      exact ⟨_, upd_same⟩
    · rw [upd_ne e]
      exact c.al a q
  · have n2 : a ≠ p := fun e => by
      subst e
      rw [h0] at h
      cases h
    rw [upd_ne n2]
    exact c.fr a o n h
  · rcases set_key hx with ⟨rfl, rfl, hl⟩ | ⟨hj, hx2⟩
    · exact ⟨_, h1, rfl, m, vs, upd_same, by rw [hm]; exact r⟩
    · obtain ⟨y, g1, g2⟩ := c.sl j x hx2
      refine ⟨y, g1, ?_⟩
      cases x with
      | un => trivial
      | dat d =>
        obtain ⟨v, e, r⟩ := g2
        exact ⟨v, e, by rw [hm]; exact r⟩
      | own q fs =>
        obtain ⟨e, mq, us, g3, r⟩ := g2
        have n : q ≠ p := fun z => by
          subst z
          exact hj (c.dj i j _ _ _ hi hx2)
        exact ⟨e, mq, us, by rw [upd_ne n]; exact g3, by rw [hm]; exact r⟩
      | bag => exact g2
      | sq ds =>
        obtain ⟨q, vs, k1, k2, k3, k4⟩ := g2
        exact ⟨q, vs, k1, k2, k3, by rw [hm]; exact k4⟩
      | sl ds =>
        obtain ⟨q, vs, k1, k2, k3, k4⟩ := g2
        exact ⟨q, vs, k1, k2, k3, by rw [hm]; exact k4⟩
      | oll q qs => exact ⟨g2.1, g2.2.mono (fun _ m _ => m) (fun a o _ _ n h => by rw [upd_ne (show a ≠ p from fun e => n (by rw [e]; exact h0))]; exact h) (by rw [hm]; exact Same.refl _)⟩
  · rcases set_key h1 with ⟨rfl, z, _⟩ | ⟨hj, h1⟩
    · cases z
      rcases set_key h2 with ⟨rfl, _, _⟩ | ⟨hk, h2⟩
      · rfl
      · exact c.dj _ _ _ _ _ hi h2
    · rcases set_key h2 with ⟨rfl, z, _⟩ | ⟨hk, h2⟩
      · cases z
        exact c.dj _ _ _ _ _ h1 hi
      · exact c.dj j k q e1 e2 h1 h2
  · rcases set_key h with ⟨rfl, z, _⟩ | ⟨hj, h⟩
    · cases z
      exact ⟨h0, hb⟩
    · exact c.oh j q e1 h
/-- the own list is looked at as data from here on -/
theorem Ctx.freeze (c : Ctx F M σ H δ) {i : Nat} {p : Addr} {ds : OD} (hi : δ[i]? = some (.own p ds)) : Ctx F (shw M p) σ H (δ.set i (.dat ds.d)) := by
  obtain ⟨y, h1, hy, m, ws, h3, r0⟩ := c.sl i _ hi
  subst hy
  obtain ⟨h0, hb⟩ := c.oh i p ds hi
  have s : Same (hd M H) (hd (shw M p) H) := same_hd_le shw_le
  have n0 : ∀ a, F.M0 a = true → a ≠ p := fun a mm e => by
    subst e
    obtain ⟨o, h⟩ := c.al0 _ mm
    rw [h0] at h
    cases h
  refine ⟨fun a q => c.al a (shw_le a q), c.al0, fun a q => by rw [shw_ne (n0 a q)]; exact c.m0 a q, c.fr, ⟨c.bg.1, fun r h => (c.bg.2 r h).imp id fun t => ⟨t.1, fun a φ m => t.2 a φ (shw_le a m)⟩⟩, by rw [List.length_set, c.ln], fun j x hx => ?_, fun j k q e1 e2 h1 h2 => ?_, fun j q e1 h => ?_⟩
  · rcases set_key hx with ⟨rfl, rfl, hl⟩ | ⟨hj, hx2⟩
    · exact ⟨_, h1, _, rfl, (r0.mono s).rep (hd_at shw_same h3)⟩
    · obtain ⟨y, g1, g2⟩ := c.sl j x hx2
      refine ⟨y, g1, ?_⟩
      cases x with
      | un => trivial
      | dat d =>
        obtain ⟨v, e, r⟩ := g2
        exact ⟨v, e, r.mono s⟩
      | own q fs =>
        obtain ⟨e, mq, us, g3, r⟩ := g2
        have n : q ≠ p := fun z => by
          subst z
          exact hj (c.dj i j _ _ _ hi hx2)
        exact ⟨e, by rw [shw_ne n]; exact mq, us, g3, r.mono s⟩
      | bag => exact g2
      | sq ds =>
        obtain ⟨q, vs, k1, k2, k3, k4⟩ := g2
        exact ⟨q, vs, k1, k2, k3, k4.mono s⟩
      | sl ds =>
        obtain ⟨q, vs, k1, k2, k3, k4⟩ := g2
        exact ⟨q, vs, k1, k2, k3, k4.mono s⟩
      | oll q qs => exact ⟨g2.1, g2.2.mono (fun a m n => by rw [shw_ne (show a ≠ p from fun e => n (by rw [e]; exact (c.oh i p _ hi).1))]; exact m) (fun _ _ _ _ _ h => h) s⟩
  · rcases set_key h1 with ⟨rfl, z, _⟩ | ⟨hj, h1⟩
    · cases z
    rcases set_key h2 with ⟨rfl, z, _⟩ | ⟨hk, h2⟩
    · cases z
    exact c.dj j k q e1 e2 h1 h2
  · rcases set_key h with ⟨rfl, z, _⟩ | ⟨hj, h⟩
    · cases z
    exact c.oh j q e1 h
end
/-- an expression that makes a new list -/
def EvN (F : Fm) (te : TE) (δ : List SD) (P : List D → Prop) : Prop := ∀ M σ H (Q : VK), Ctx F M σ H δ →
  (∀ p vs ds H', P ds → Ctx F (hid M p) σ H' δ → H p = none → F.H0 p = none → ¬ F.mv p → (∀ (j : Nat) (es : OD), δ[j]? ≠ some (.own p es)) → StepB F.mv H H' → H' p = some (.lst vs) → RepL F.K (hd (hid M p) H') vs ds → Q (.ref p) H') → te σ H Q
section
variable {F : Fm} {δ : List SD} {ta tb tc te : TE} {t u ts : TS} {tt tu : TT} {P : List D → Prop} {PX : List D → Prop} {R : PD} {M : Addr → Bool} {σ : L2.St} {H H' : Hp} {g : TG} {gs : TGs} {wi : TI}
theorem Ctx.nob (c : Ctx F M σ H δ) {p : Addr} (hp : H p = none) : ¬ F.mv p := fun z => by
  rcases z with z | z
  case inr =>
    obtain ⟨r, z, e⟩ := z
    obtain ⟨_, ⟨ps, h, _⟩, _⟩ := c.bg.2 r z
    rw [e, hp] at h
    cases h
  obtain ⟨_, h, _⟩ := c.bg.1 p z
  obtain ⟨o, h⟩ := h.at
  rw [hp] at h
  cases h
theorem Ctx.h0 (c : Ctx F M σ H δ) {p : Addr} (hp : H p = none) : F.H0 p = none := by
  cases q : F.H0 p with
  | none => rfl
  | some o =>
    have := c.fr p o (c.nob hp) q
    rw [hp] at this
    cases this
theorem Ctx.nown (c : Ctx F M σ H δ) {p : Addr} (hp : H p = none) : ∀ (j : Nat) (es : OD), δ[j]? ≠ some (.own p es) := fun j es h => by
  obtain ⟨s, _, _, _, vs, h3, _⟩ := c.sl j _ h
  rw [hp] at h3
  cases h3
theorem al_none {p : Addr} (al : Al M H) (hp : H p = none) : M p = false := by
  cases e : M p with
  | true =>
    obtain ⟨u, h⟩ := al p e
    rw [hp] at h
    cases h
  | false => rfl
theorem EvN.ev {P : D → Prop} (h : EvN F te δ fun ds => P (.lst ds)) : Ev F te δ P := fun M σ H Q c q =>
  h M σ H Q c fun p vs ds H' pd c' hp h0 hb no e hl r => by
    have m := al_none c.al hp
    have s : Same (hd (hid M p) H') (hd M H') := same_hd_le hid_le
    exact q _ (.lst ds) H' pd (c'.show' m h0 no) e (.lst (hd_at m hl) (r.mono s))
theorem en_lst {ta : TA} (h : EvA F ta δ fun ds => ds.length ≤ 100000 ∧ P ds) : EvN F (tLst ta) δ P := fun M σ H Q c q =>
  h M σ H _ c fun vs ds H1 p1 c1 e1 r1 => ⟨by rw [r1.length]; exact sz_of p1.1, fun p hp => by
    have hp0 : H p = none := by
      cases z : H p with
      | none => rfl
      | some o =>
        have := e1 p o (c1.nob hp) z
        rw [hp] at this
        cases this
    have c2 := c1.hide hp (o := .lst vs)
    refine q p vs ds _ p1.2 c2 hp0 (c1.h0 hp) (c1.nob hp) (c1.nown hp) (e1.trans (StepB.of (same_new hp))) upd_same (r1.mono fun a u e => ?_)
    obtain ⟨m, h⟩ := hd_of e
    have n : a ≠ p := ne_of_none h hp
    exact hd_at (by rw [hid_ne n]; exact m) (by rw [upd_ne n]; exact h)⟩
/-- a slot takes a new list as its own -/
theorem do_own {i : Nat} (h : EvN F te δ fun ds => ∀ p, R.nx (δ.set i (.own p (.lst ds)))) : Do F (tAsg te (gName i)) δ R := fun M σ H E c a b k d =>
  h M σ H _ c fun p vs ds H' pd c' hp h0 hb no e hl r => a (hid M p) _ H' _ (pd p) (c'.setOwn i hid_same hl (.lst r) h0 hb fun j es _ => no j es) fun x o hx => by
    obtain ⟨m, h1⟩ := hd_of hx
    have n : x ≠ p := ne_of_none h1 hp
    refine hd_at (by rw [hid_ne n]; exact m) (e x o (fun z => ?_) h1)
    have := c.m0 x (z.elim (fun z => (c.bg.1 x z).1) fun ⟨r, z, e⟩ => e ▸ (c.bg.2 r z).1)
    rw [m] at this
    cases this
theorem do_freeze {i : Nat} {p : Addr} {ds : OD} (hi : δ[i]? = some (.own p ds)) (h : Do F t (δ.set i (.dat ds.d)) R) : Do F t δ R := fun M σ H E c a b k d => by
  have s : Same (hd M H) (hd (shw M p) H) := same_hd_le shw_le
  exact h (shw M p) σ H E (c.freeze hi) (fun M2 σ2 H2 δ2 p2 c2 s2 => a M2 σ2 H2 δ2 p2 c2 (s.trans s2)) (fun v x M2 σ2 H2 δ2 p2 c2 s2 => b v x M2 σ2 H2 δ2 p2 c2 (s.trans s2))
    (fun M2 σ2 H2 δ2 p2 c2 s2 => k M2 σ2 H2 δ2 p2 c2 (s.trans s2)) (fun M2 σ2 H2 δ2 p2 c2 s2 => d M2 σ2 H2 δ2 p2 c2 (s.trans s2))
theorem do_append {i : Nat} {p : Addr} {ds : List D} (hi : δ[i]? = some (.own p (.lst ds))) (hl : ds.length < 100000) (h : Ev F te δ fun x => R.nx (δ.set i (.own p (.lst (ds ++ [x]))))) :
    Do F (tDrop (tBM F.K "list" rAppend (tVar i) (tCons te tNil))) δ R := fun M σ H E c a b k d => by
  obtain ⟨y, h1, hy, m, ho, h3, r0⟩ := c.sl i _ hi
  subst hy
  cases r0 with
  | @lst ws _ r0 =>
  refine ⟨_, h1, .inl ⟨rfl, ws, SqL.of h3⟩, ?_⟩
  refine h M σ H _ c fun v x H1 px c1 e r => ?_
  have h4 := e p _ (c.oh i p _ hi).2 h3
  have s := hd_step c e
  refine ⟨p, ws, v, rfl, rfl, h4, by rw [r0.length]; exact sz_lt hl, ?_⟩
  refine a M σ _ _ px (c1.put hi (.lst ((r0.mono s).append (RepL.one r)))) ?_
  rw [hd_upd m]
  exact s
/-! comprehensions -/
theorem en_lc {js vs : List Nat} (hw : ItD F wi δ PX) (hl : ∀ xs, PX xs → xs.length ≤ 100000) (hj : ∀ j ∈ js, j ∈ vs) (I : List D → Nat → List D → Prop) (h0 : ∀ xs, PX xs → I xs 0 [])
    (hs : ∀ xs i x acc, PX xs → xs[i]? = some x → I xs i acc → TgD F g js x (wipeD δ vs) fun δ' => EvT F tt δ' fun b => (b = true → Ev F te δ' fun y => I xs (i + 1) (acc ++ [y])) ∧ (b = false → I xs (i + 1) acc))
    (he : ∀ xs ds, PX xs → I xs xs.length ds → P ds) : EvN F (tLc wi g tt te vs) δ P := fun M σ H Q c q => by
  refine hw M σ H _ c fun J xs H1 px c1 e1 wd => ?_
  intro A hA
  obtain ⟨G, Y, w, wg, wy⟩ := wd
  have hA0 : H A = none := by
    cases z : H A with
    | none => rfl
    | some o =>
      have := e1 A o (c1.nob hA) z
      rw [hA] at this
      cases this
  have c2 := c1.hide hA (o := .lst [])
  have mA := al_none c1.al hA
  have s0 : Same (hd M H1) (hd (hid M A) (upd H1 A (.lst []))) := fun a u e => by
    obtain ⟨m, h⟩ := hd_of e
    have n : a ≠ A := ne_of_none h hA
    exact hd_at (by rw [hid_ne n]; exact m) (by rw [upd_ne n]; exact h)
  have k0 : StepB F.mv H (upd H1 A (.lst [])) := e1.trans (StepB.of (same_new hA))
  have hlen := hl xs px
  -- the wiped slots are wiped once and for all
  have ww : ∀ σ2 : L2.St, wipe σ2 vs = wipe (wipe σ vs) vs → wipe σ2 vs = wipe σ vs := fun σ2 h => by
    rw [h]
    have key : ∀ (ws : List Nat) (τ : L2.St), (∀ j ∈ ws, j ∈ vs) → wipe (wipe τ ws) vs = wipe τ vs := by
      intro ws
      induction ws with
      | nil => intro τ _; rfl
      | cons j js ih =>
        intro τ hjs
        show wipe ((wipe τ js).set j none) vs = wipe τ vs
        rw [wipe_set (hjs j (by simp)), ih τ fun k hk => hjs k (List.mem_cons_of_mem _ hk)]
    exact key vs σ fun _ h => h
  refine lc_it w (fun i H' => ∃ ws acc, I xs i acc ∧ acc.length ≤ i ∧ Ctx F (hid M A) σ H' δ ∧ StepB F.mv H H' ∧ Same (hd M H1) (hd (hid M A) H') ∧ H' A = some (.lst ws) ∧ RepL F.K (hd (hid M A) H') ws acc)
    ⟨[], [], h0 xs px, Nat.le_refl _, c2, k0, s0, upd_same, .nil⟩ (fun i H' _ ⟨_, _, _, _, c', _, s, _⟩ => wg (hid M A) H' s c'.fr) ?_ ?_
  · rintro i x H' H2 hi ⟨ws, acc, hI, ha, c', k', s, hAl, r⟩ y
    obtain ⟨s2, dx, h1, rx⟩ := wy (hid M A) H' i x H2 c'.al s y
    have c2 := c'.same s2
    refine hs xs i dx acc px h1 hI (hid M A) (wipe σ vs) H2 x _ (c2.wipe vs) rx fun σ3 H3 δ3 p3 c3 e3 w3 => ⟨ww σ3 (w3 vs hj), ?_⟩
    refine p3 (hid M A) σ3 H3 _ c3 fun b H4 pb c4 e4 => ?_
    have k4 : StepB F.mv H2 H4 := e3.trans e4
    have c24 : Ctx F (hid M A) σ H4 δ := c2.stepG k4 c4.bg
    have s24 : Same (hd (hid M A) H2) (hd (hid M A) H4) := hd_step c2 k4
    have hA2 : H2 A = some (.lst ws) := s2 _ _ hAl
    have hA4 : H4 A = some (.lst ws) := k4 A _ (c1.nob hA) hA2
    have k' : StepB F.mv H H2 := k'.trans (StepB.of s2)
    have s' : Same (hd M H1) (hd (hid M A) H2) := s.trans (same_hdM s2)
    have r' : RepL F.K (hd (hid M A) H2) ws acc := r.mono (same_hdM s2)
    cases b with
    | false =>
      rw [if_neg Bool.false_ne_true]
      exact ⟨ws, acc, pb.2 rfl, Nat.le_succ_of_le ha, c24, k'.trans k4, s'.trans s24, hA4, r'.mono s24⟩
    | true =>
      rw [if_pos rfl]
      refine pb.1 rfl (hid M A) σ3 H4 _ c4 fun v d H5 pd c5 e5 r5 => ?_
      have k5 : StepB F.mv H2 H5 := k4.trans e5
      have c25 : Ctx F (hid M A) σ H5 δ := c2.stepG k5 c5.bg
      have s25 : Same (hd (hid M A) H2) (hd (hid M A) H5) := hd_step c2 k5
      have hA5 : H5 A = some (.lst ws) := k5 A _ (c1.nob hA) hA2
      have hm : hd (hid M A) (upd H5 A (.lst (ws ++ [v]))) = hd (hid M A) H5 := hd_upd hid_same
      have hal : acc.length < 100000 := by omega
      refine ⟨ws, hA5, by rw [r.length]; exact sz_lt hal, ws ++ [v], acc ++ [d], pd, by simp only [List.length_append, List.length_cons, List.length_nil]; omega, ?_, ?_, ?_, upd_same, ?_⟩
      · refine c25.poke hid_same hA5 (c1.h0 hA) (c1.nob hA) (c1.nown hA)
      · intro a o n h
        by_cases e : a = A
        · subst e
          rw [hA0] at h
          cases h
        · rw [upd_ne e]
          exact k5 a o n (k' a o n h)
      · rw [hm]
        exact s'.trans s25
      · rw [hm]
        exact (r'.mono s25).append (RepL.one r5)
  · rintro H' ⟨ws, acc, hI, ha, c', k', s, hAl, r⟩
    exact q A ws acc H' (he xs acc px hI) c' hA0 (c1.h0 hA) (c1.nob hA) (c1.nown hA) k' hAl r
end
end Pf

namespace Pf
open PySem L2 RZ

/-! ### calls of defs -/
/-- a promise that speaks of data alone; one of a def whose first argument is the bag -/
def spD (K : PySem.W.Frag) (Pre : List D → Prop) (Post : List D → D → Prop) : Sp := fun vs H Q _ => ∃ (M : Addr → Bool) (ds : List D), Al M H ∧ RepL K (hd M H) vs ds ∧ Pre ds ∧
  ∀ v d H', Post ds d → Same H H' → Rep K (hd M H') v d → Q v H'
def spB (K : PySem.W.Frag) (Pre : List D → Prop) (Post : List D → D → Prop) : Sp := fun vs H Q _ => ∃ (M : Addr → Bool) (b c : Addr) (ws : List V) (ds : List D), vs = .ref b :: ws ∧ Al M H ∧ M b = true ∧ BagAt H b c ∧ RepL K (hd M H) ws ds ∧ Pre ds ∧
  ∀ v d H', Post ds d → StepB (· = b) H H' → BagAt H' b c → Rep K (hd M H') v d → Q v H'
section
variable {F : Fm} {δ : List SD} {ta : TA} {te : TE} {P : D → Prop} {Pre : List D → Prop} {Post : List D → D → Prop} {E : XK}
theorem ev_call (h : EvA F ta δ fun ds => Pre ds ∧ ∀ d, Post ds d → P d) : Ev F (tCall (spD F.K Pre Post) [] E ta) δ P := fun M σ H Q c q =>
  h M σ H _ c fun vs ds H1 p c1 e1 r => by
    rw [List.append_nil]
    exact ⟨M, ds, c1.al, r, p.1, fun v d H2 pd s r2 => q v d H2 (p.2 d pd) (c1.same s) (e1.trans (StepB.of s)) r2⟩
theorem ev_callB {i : Nat} {b : Addr} (hb : F.B = some b) (hi : δ[i]? = some .bag) (h : EvA F ta δ fun ds => Pre ds ∧ ∀ d, Post ds d → P d) : Ev F (tCall (spB F.K Pre Post) [] E (tCons (tVar i) ta)) δ P := fun M σ H Q c q => by
  obtain ⟨s, h1, b', h2, h3⟩ := c.sl i _ hi
  subst h3
  rw [hb] at h2
  cases h2
  refine ⟨_, h1, ?_⟩
  refine h M σ H _ c fun vs ds H1 p c1 e1 r => ?_
  show spB F.K Pre Post (V.ref b :: vs ++ []) H1 Q E
  rw [List.append_nil]
  obtain ⟨g0, g1, g2⟩ := c1.bg.1 b hb
  refine ⟨M, b, F.C0, vs, ds, rfl, c1.al, c1.m0 b g0, g1, r, p.1, fun v d H2 pd s ba r2 => ?_⟩
  have s' : StepB F.mv H1 H2 := fun a o n h => s a o (fun z => n (.inl (by rw [hb, z]))) h
  exact q v d H2 (p.2 d pd) (c1.stepG s' ⟨fun b2 z => by
    rw [hb] at z
    cases z
    exact ⟨g0, ba, g2⟩, fun r h => by
    obtain ⟨z1, z2, z3⟩ := c1.bg.2 r h
    obtain ⟨_, _, _, _, _, g3, _⟩ := g1
    refine ⟨z1, tabS_step z2 (fun ps z2 => s r.1 _ (fun z => ?_) z2) (fun x z2 => s x _ (fun z => ?_) z2), fun x φ m y => ?_⟩
    rotate_left
    rotate_left
    · obtain ⟨o, ho⟩ := c1.al x m
      by_cases e : x = b
      · obtain ⟨_, _, _, _, _, g4, _⟩ := ba
        rw [e, g4] at y
        cases y
      · have := s x o e ho
        rw [y] at this
        cases this
        exact z3 x φ m ho
    · have z : r.1 = b := z
      rw [z, g3] at z2
      cases z2
    · have z : x = b := z
      rw [z, g3] at z2
      cases z2⟩) (e1.trans s') r2
end
/-! ### into a def's body -/
def slots (N : List Str) (ds : List D) : List SD := ds.map .dat ++ List.replicate (N.length - ds.length) .un
def slotsB (N : List Str) (ds : List D) : List SD := .bag :: (ds.map .dat ++ List.replicate (N.length - (ds.length + 1)) .un)
theorem sl_base {K : PySem.W.Frag} {F : Fm} {M : Addr → Bool} {H : Hp} (hK : F.K = K) : ∀ {vs : List V} {ds : List D} (n : Nat), RepL K (hd M H) vs ds →
    ∀ (i : Nat) (x : SD), (ds.map SD.dat ++ List.replicate n .un)[i]? = some x → ∃ s, (vs.map some ++ List.replicate n none)[i]? = some s ∧ SlotOk F M H s x
  | [], [], n, .nil, i, x, h => by
    simp only [List.map_nil, List.nil_append, List.getElem?_replicate] at h ⊢
    split at h
    · rename_i hi
      cases h
      exact ⟨none, by rw [if_pos hi], trivial⟩
    · cases h
  | v :: vs, d :: ds, n, .cons r rs, 0, x, h => by
    have e : SD.dat d = x := by simpa using h
    subst e
    exact ⟨some v, rfl, v, rfl, by rw [hK]; exact r⟩
  | v :: vs, d :: ds, n, .cons r rs, i + 1, x, h => sl_base hK n rs i x (by simpa using h)
theorem no_own {ds : List D} {n : Nat} {i : Nat} {p : Addr} {es : OD} : (ds.map SD.dat ++ List.replicate n .un)[i]? ≠ some (.own p es) := fun h => by
  have := List.mem_of_getElem? h
  rcases List.mem_append.mp this with h | h
  · obtain ⟨d, _, e⟩ := List.mem_map.mp h
    cases e
  · have := List.eq_of_mem_replicate h
    cases this
section
variable {K : PySem.W.Frag} {N : List Str} {vs : List V} {H : Hp} {Q : VK} {E : XK} {t : TS} {Pre : List D → Prop} {Post : List D → D → Prop}
theorem enterD (hs : spD K Pre Post vs H Q E) (hb : ∀ (M : Addr → Bool) (ds : List D), Pre ds → ds.length = vs.length → Do ⟨K, none, M, H, E, 0, []⟩ t (slots N ds) { nx := fun _ => Post ds .non, rt := Post ds }) :
    t { nx := fun _ H' => Q .non H', rt := Q } (L2.start N vs) H := by
  obtain ⟨M, ds, al, r, pre, q⟩ := hs
  have hl := r.length
  have c : Ctx ⟨K, none, M, H, E, 0, []⟩ M (L2.start N vs) H (slots N ds) := by
    refine ⟨al, al, fun _ h => h, StepB.refl _ _, ⟨fun b z => (nomatch z), fun a h => (nomatch h)⟩, ?_, ?_, fun i j p es fs h1 h2 => absurd h1 no_own, fun i p es h => absurd h no_own⟩
    · unfold L2.start slots
      rw [List.length_append, List.length_append, List.length_map, List.length_map, List.length_replicate, List.length_replicate, hl]
    · unfold L2.start slots
      rw [hl]
      exact sl_base rfl _ r
  refine hb M ds pre hl.symm M _ H _ c (fun M' σ' H' δ' p c' s => ?_) (fun v d M' σ' H' δ' p c' s r' => ?_) (fun _ _ _ _ p => p.elim) (fun _ _ _ _ p => p.elim)
  · exact q _ _ H' p (fun a o h => c'.fr a o (mv_none rfl rfl a) h) .non
  · exact q v d H' p (fun a o h => c'.fr a o (mv_none rfl rfl a) h) (r'.mono (same_hd_le fun a h => c'.m0 a h))
theorem enterB (hs : spB K Pre Post vs H Q E) (hb : ∀ (M : Addr → Bool) (b c : Addr) (ds : List D), Pre ds → ds.length + 1 = vs.length → Do ⟨K, some b, M, H, E, c, []⟩ t (slotsB N ds) { nx := fun _ => Post ds .non, rt := Post ds }) :
    t { nx := fun _ H' => Q .non H', rt := Q } (L2.start N vs) H := by
  obtain ⟨M, b, cc, ws, ds, rfl, al, mb, ba, r, pre, q⟩ := hs
  have hl := r.length
  have hc : ∃ o, H cc = some o := by
    obtain ⟨ns, i, z, s, t, _, _, h3, _⟩ := ba
    exact ⟨_, h3⟩
  have c : Ctx ⟨K, some b, M, H, E, cc, []⟩ M (L2.start N (.ref b :: ws)) H (slotsB N ds) := by
    refine ⟨al, al, fun _ h => h, StepB.refl _ _, ⟨fun b z => ?_, fun a h => (nomatch h)⟩, ?_, fun i x h => ?_, fun i j p es fs h1 h2 => ?_, fun i p es h => ?_⟩
    · cases z
      exact ⟨mb, ba, hc⟩
    · unfold L2.start slotsB
      simp only [List.length_append, List.length_cons, List.length_map, List.length_replicate, hl]
      omega
    · unfold L2.start
      unfold slotsB at h
      cases i with
      | zero =>
        have e : SD.bag = x := by simpa using h
        subst e
        exact ⟨_, rfl, b, rfl, rfl⟩
      | succ i =>
        have h' : (ds.map SD.dat ++ List.replicate (N.length - (ds.length + 1)) .un)[i]? = some x := by simpa using h
        rw [List.length_cons, hl]
        exact sl_base rfl _ r i x h'
    · unfold slotsB at h1
      cases i with
      | zero => cases (show SD.bag = SD.own p es by simpa using h1)
      | succ i => exact absurd (show (ds.map SD.dat ++ List.replicate (N.length - (ds.length + 1)) .un)[i]? = some (.own p es) by simpa using h1) no_own
    · unfold slotsB at h
      cases i with
      | zero => cases (show SD.bag = SD.own p es by simpa using h)
      | succ i => exact absurd (show (ds.map SD.dat ++ List.replicate (N.length - (ds.length + 1)) .un)[i]? = some (.own p es) by simpa using h) no_own
  refine hb M b cc ds pre (by rw [List.length_cons, hl]) M _ H _ c (fun M' σ' H' δ' p c' s => ?_) (fun v d M' σ' H' δ' p c' s r' => ?_) (fun _ _ _ _ p => p.elim) (fun _ _ _ _ p => p.elim)
  · exact q _ _ H' p (fun a o n h => c'.fr a o (mv_bag rfl rfl n) h) (c'.bg.1 b rfl).2.1 .non
  · exact q v d H' p (fun a o n h => c'.fr a o (mv_bag rfl rfl n) h) (c'.bg.1 b rfl).2.1 (r'.mono (same_hd_le fun a h => c'.m0 a h))
end
theorem spD_len {K : PySem.W.Frag} {Pre : List D → Prop} {Post : List D → D → Prop} {n : Nat} (h : ∀ ds, Pre ds → ds.length = n) : ∀ vs H Q E, spD K Pre Post vs H Q E → vs.length = n := fun vs H Q E ⟨M, ds, _, r, p, _⟩ => by rw [r.length, h ds p]
theorem spB_len {K : PySem.W.Frag} {Pre : List D → Prop} {Post : List D → D → Prop} {n : Nat} (h : ∀ ds, Pre ds → ds.length + 1 = n) : ∀ vs H Q E, spB K Pre Post vs H Q E → vs.length = n := fun vs H Q E ⟨M, b, c, ws, ds, e, _, _, _, r, p, _⟩ => by
  subst e
  rw [List.length_cons, r.length, h ds p]

/-! ### operations -/
section
variable {K : PySem.W.Frag} {P : D → Prop} {i j : Int} {x y : D}
theorem od_eq_int (p : P (.bl (decide (i = j)))) : OpD K rEq (.int i) (.int j) P := fun M H v w Q al r1 r2 q => by
  cases r1
  cases r2
  exact ⟨rfl, q _ _ H (show P (.bl (decide (V.int i = V.int j))) by rw [show decide (V.int i = V.int j) = decide (i = j) by rw [dec_int, Bool.beq_eq_decide_eq]]; exact p) (Same.refl H) (.bl _)⟩
theorem od_ne_int (p : P (.bl (!decide (i = j)))) : OpD K rNe (.int i) (.int j) P := fun M H v w Q al r1 r2 q => by
  cases r1
  cases r2
  exact ⟨rfl, q _ _ H (show P (.bl (!decide (V.int i = V.int j))) by rw [show decide (V.int i = V.int j) = decide (i = j) by rw [dec_int, Bool.beq_eq_decide_eq]]; exact p) (Same.refl H) (.bl _)⟩
theorem od_eq_bl {a b : Bool} (p : P (.bl (decide (a = b)))) : OpD K rEq (.bl a) (.bl b) P := fun M H v w Q al r1 r2 q => by
  cases r1
  cases r2
  exact ⟨rfl, q _ _ H (show P (.bl (decide (V.bl a = V.bl b))) by rw [show decide (V.bl a = V.bl b) = decide (a = b) by rw [dec_bl, Bool.beq_eq_decide_eq]]; exact p) (Same.refl H) (.bl _)⟩
theorem od_ne_bl {a b : Bool} (p : P (.bl (!decide (a = b)))) : OpD K rNe (.bl a) (.bl b) P := fun M H v w Q al r1 r2 q => by
  cases r1
  cases r2
  exact ⟨rfl, q _ _ H (show P (.bl (!decide (V.bl a = V.bl b))) by rw [show decide (V.bl a = V.bl b) = decide (a = b) by rw [dec_bl, Bool.beq_eq_decide_eq]]; exact p) (Same.refl H) (.bl _)⟩
theorem od_eq_str {a b : Str} (p : P (.bl (decide (a = b)))) : OpD K rEq (.str a) (.str b) P := fun M H v w Q al r1 r2 q => by
  cases r1
  cases r2
  exact ⟨rfl, q _ _ H (show P (.bl (decide (V.str a = V.str b))) by rw [show decide (V.str a = V.str b) = decide (a = b) by rw [dec_str, Bool.beq_eq_decide_eq]]; exact p) (Same.refl H) (.bl _)⟩
theorem od_ne_str {a b : Str} (p : P (.bl (!decide (a = b)))) : OpD K rNe (.str a) (.str b) P := fun M H v w Q al r1 r2 q => by
  cases r1
  cases r2
  exact ⟨rfl, q _ _ H (show P (.bl (!decide (V.str a = V.str b))) by rw [show decide (V.str a = V.str b) = decide (a = b) by rw [dec_str, Bool.beq_eq_decide_eq]]; exact p) (Same.refl H) (.bl _)⟩
/-- x is None -/
def isNon : D → Bool | .non => true | _ => false
theorem rep_non {H : Hp} {v : V} (r : Rep K H v x) : decide (v = .non) = isNon x := by
  cases r <;> rfl
theorem ud_isN (p : P (.bl (isNon x))) : OpD K (fun x y H Q => y = .non ∧ Q (.bl (decide (x = .non))) H) x .non P := fun M H v w Q al r1 r2 q => by
  have e := rep_non r1
  cases r2
  exact ⟨rfl, by rw [e]; exact q _ _ H p (Same.refl H) (.bl _)⟩
theorem ud_notN (p : P (.bl (!isNon x))) : OpD K (fun x y H Q => y = .non ∧ Q (.bl (!decide (x = .non))) H) x .non P := fun M H v w Q al r1 r2 q => by
  have e := rep_non r1
  cases r2
  exact ⟨rfl, by rw [e]; exact q _ _ H p (Same.refl H) (.bl _)⟩
theorem repL_at {H : Hp} {vs : List V} {ds : List D} {d : D} (r : RepL K H vs ds) (h : atI ds i = some d) : ∃ v, atI vs i = some v ∧ Rep K H v d := by
  unfold atI at h ⊢
  rw [r.length]
  cases e : ixN ds.length i with
  | none => rw [e] at h; cases h
  | some k =>
    rw [e] at h
    exact r.get h
theorem od_ixL {ds : List D} {d : D} (h : atI ds i = some d) (p : P d) : OpD K (rIxL K) (.lst ds) (.int i) P := fun M H v w Q al r1 r2 q => by
  cases r1 with
  | lst h1 h2 =>
    cases r2
    obtain ⟨v, e, r⟩ := repL_at h2 h
    exact ⟨_, _, i, v, rfl, rfl, SqL.of (hd_of h1).2, e, q v d H p (Same.refl H) r⟩
theorem od_ixT {ds : List D} {d : D} (h : atI ds i = some d) (p : P d) : OpD K (rIxT K) (.tup ds) (.int i) P := fun M H v w Q al r1 r2 q => by
  cases r1 with
  | tup h1 h2 =>
    cases r2
    obtain ⟨v, e, r⟩ := repL_at h2 h
    exact ⟨_, _, i, v, rfl, rfl, same_tup (same_hd M H) h1, e, q v d H p (Same.refl H) r⟩
theorem od_ixS {z : Str} {c : Nat} (hz : z.length ≤ 100000) (h : atI z.cps.toList i = some c) (p : P (.str ⟨#[c]⟩)) : OpD K rIxS (.str z) (.int i) P := fun M H v w Q al r1 r2 q => by
  cases r1
  cases r2
  exact ⟨z, i, c, rfl, rfl, sz_of hz, h, q _ _ H p (Same.refl H) (.str _)⟩
theorem atI_nat' {α : Type} {xs : List α} {i : Int} (h0 : 0 ≤ i) (h : i.toNat < xs.length) : atI xs i = some (xs[i.toNat]) := by
  obtain ⟨n, rfl⟩ : ∃ n : Nat, i = (n : Int) := ⟨i.toNat, by omega⟩
  exact atI_nat (by simp)
theorem od_addS {a b : Str} (h : a.length + b.length ≤ 100000) (p : P (.str (a ++ b))) : OpD K (fun x y H Q => ∃ i j, x = .str i ∧ y = .str j ∧ i.length + j.length ≤ sizeLine ∧ Q (.str (i ++ j)) H) (.str a) (.str b) P := fun M H v w Q al r1 r2 q => by
  cases r1
  cases r2
  exact ⟨a, b, rfl, rfl, sz_of h, q _ _ H p (Same.refl H) (.str _)⟩
theorem od_leS {a b : Str} (p : P (.bl (!decide (b.cps.toList < a.cps.toList)))) : OpD K (fun x y H Q => ∃ i j, x = .str i ∧ y = .str j ∧ Q (.bl (!decide (j.cps.toList < i.cps.toList))) H) (.str a) (.str b) P := fun M H v w Q al r1 r2 q => by
  cases r1
  cases r2
  exact ⟨a, b, rfl, rfl, q _ _ H p (Same.refl H) (.bl _)⟩
theorem od_cat {xs ys : List D} (h : xs.length + ys.length ≤ 100000) (p : P (.lst (xs ++ ys))) : OpD K rCat (.lst xs) (.lst ys) P := fun M H v w Q al r1 r2 q => by
  cases r1 with
  | lst h1 h2 =>
    cases r2 with
    | lst h3 h4 =>
      refine ⟨_, _, _, _, rfl, rfl, (hd_of h1).2, (hd_of h3).2, by rw [h2.length, h4.length]; exact sz_of h, fun p' hp => ?_⟩
      exact q _ _ _ p (same_new hp) (.lst (hd_new al hp) ((h2.append h4).mono (same_hdM (same_new hp))))
/-! slices -/
def cutD (xs : List D) (lo hi : Option Int) : List D := (xs.drop (HT.sIx xs.length 0 lo)).take (HT.sIx xs.length xs.length hi - HT.sIx xs.length 0 lo)
theorem repL_cut {H : Hp} {vs : List V} {ds : List D} (r : RepL K H vs ds) (lo hi : Option Int) : RepL K H (cutV vs lo hi) (cutD ds lo hi) := by
  unfold cutV cutD
  rw [r.length]
  exact (r.drop _).take _
end
def EvO (F : Fm) (to : TO) (δ : List SD) (P : Option Int → Prop) : Prop := ∀ M σ H (Q : Option Int → Hp → Prop), Ctx F M σ H δ →
  (∀ o H', P o → Ctx F M σ H' δ → StepB F.mv H H' → Q o H') → to σ H Q
section
variable {F : Fm} {δ : List SD} {ta tb tc te : TE} {tl th : TO} {tt tu : TT} {P : D → Prop} {PL : List D → Prop} {PO : Option Int → Prop}
theorem eo_none (p : PO none) : EvO F tNoPart δ PO := fun M σ H Q c q => q _ H p c (StepB.refl _ _)
theorem eo_some (h : Ev F te δ fun d => ∃ i, d = .int i ∧ PO (some i)) : EvO F (tPart te) δ PO := fun M σ H Q c q =>
  h M σ H _ c fun v d H1 p c1 e r => by
    obtain ⟨i, rfl, p⟩ := p
    cases r
    exact ⟨i, rfl, q _ H1 p c1 e⟩
theorem ev_slS (h : Ev F te δ fun d => EvO F tl δ fun lo => EvO F th δ fun hi => ∃ z, d = .str z ∧ z.length ≤ 100000 ∧ P (.str (cutS z lo hi))) : Ev F (tSl rSlS te tl th) δ P := fun M σ H Q c q =>
  h M σ H _ c fun v d H1 p c1 e1 r => p M σ H1 _ c1 fun lo H2 p2 c2 e2 => p2 M σ H2 _ c2 fun hi H3 p3 c3 e3 => by
    obtain ⟨z, rfl, hz, p⟩ := p3
    cases r
    exact ⟨z, rfl, sz_of hz, q _ _ H3 p c3 ((e1.trans e2).trans e3) (.str _)⟩
/-- a slice of a list: a new one -/
theorem en_slL (h : Ev F te δ fun d => EvO F tl δ fun lo => EvO F th δ fun hi => ∃ xs, d = .lst xs ∧ PL (cutD xs lo hi)) : EvN F (tSl (rSlL F.K) te tl th) δ PL := fun M σ H Q c q =>
  h M σ H _ c fun v d H1 p c1 e1 r => p M σ H1 _ c1 fun lo H2 p2 c2 e2 => p2 M σ H2 _ c2 fun hi H3 p3 c3 e3 => by
    obtain ⟨xs, rfl, pz⟩ := p3
    have r3 := r.mono ((hd_step c1 e2).trans (hd_step c2 e3))
    cases r3 with
    | lst h1 h2 =>
      refine ⟨_, _, rfl, SqL.of (hd_of h1).2, fun a ha => ?_⟩
      have k := (e1.trans e2).trans e3
      have ha0 : H a = none := by
        cases z : H a with
        | none => rfl
        | some o =>
          have := k a o (c3.nob ha) z
          rw [ha] at this
          cases this
      refine q a _ _ _ pz (c3.hide ha) ha0 (c3.h0 ha) (c3.nob ha) (c3.nown ha) (k.trans (StepB.of (same_new ha))) upd_same ((repL_cut h2 lo hi).mono fun b u e => ?_)
      obtain ⟨m, h⟩ := hd_of e
      have n : b ≠ a := ne_of_none h ha
      exact hd_at (by rw [hid_ne n]; exact m) (by rw [upd_ne n]; exact h)
end
/-! ### calls of built-ins -/
/-- the built-in type of data -/
def tyName : D → Option String
  | .non => some "NoneType" | .bl _ => some "bool" | .int _ => some "int" | .str _ => some "str" | .lst _ => some "list" | .tup _ => some "tuple" | .dic _ => some "dict" | _ => none
def tyNames : List String := ["NoneType", "bool", "int", "str", "list", "tuple", "dict"]
def tyAsk : List String := ["bool", "int", "str", "list", "tuple", "dict"]
/-- isinstance by names -/
def isTy (a n : String) : Bool := a == n || (a == "bool" && n == "int")
theorem kit_all : (tyNames.all fun a => tyAsk.all fun n => decide (kitB a n = some (isTy a n))) = true := by decide +kernel
theorem kit_isTy {a n : String} (ha : a ∈ tyNames) (hn : n ∈ tyAsk) : kitB a n = some (isTy a n) :=
  of_decide_eq_true (List.all_eq_true.mp (List.all_eq_true.mp kit_all a ha) n hn)
theorem tyName_mem {d : D} {a : String} (h : tyName d = some a) : a ∈ tyNames := by
  cases d <;> simp only [tyName, Option.some.injEq, reduceCtorEq] at h <;> (subst h; decide)
theorem tyX_of {K : PySem.W.Frag} {H : Hp} {v : V} {d : D} {a : String} (r : Rep K H v d) (h : tyName d = some a) : TyX K H v (.type a) := by
  cases r with
  | non => cases h; exact .base .non
  | bl b => cases h; exact .base (.bl b)
  | int i => cases h; exact .base (.int i)
  | str x => cases h; exact .base (.str x)
  | lst h1 _ => cases h; exact .base (.lst h1)
  | tup h1 _ =>
    cases h
    rcases h1 with (h1 | ⟨o, h1⟩) | ⟨o, its, n, h1, h2, _⟩
    · exact .base (.tup h1)
    · exact .fTuple h1
    · exact .kTuple h1 h2
  | dic h1 _ => cases h; exact .base (.dK h1)
  | ins h1 _ => cases h
  | ty n => cases h
  | adr a => cases h
  | exc h1 h2 _ => cases h
  | fn _ _ => cases h
theorem TyX.mono {K : PySem.W.Frag} {M : Addr → Bool} {H : Hp} {v : V} {d : D} {a : String} (r : Rep K (hd M H) v d) (h : tyName d = some a) : TyX K H v (.type a) := tyX_of (r.mono (same_hd M H)) h
/-- isinstance of a type and of a tuple of types, on data -/
def isD (d : D) (n : String) : Bool := match tyName d with | some a => isTy a n | none => false
section
variable {K : PySem.W.Frag} {P : D → Prop} {i j : Int} {x y : D} {n : String}
theorem cd_isi {a : String} (hx : tyName x = some a) (hn : n ∈ tyAsk) (p : P (.bl (isD x n))) : CallD K (rIsi K) [x, .ty n] P := fun M H vs Q al r q => by
  cases r with
  | cons r1 r2 =>
    cases r2 with
    | cons r2 r3 =>
      cases r3
      cases r2
      have e : isD x n = isTy a n := by unfold isD; rw [hx]
      exact ⟨_, _, .type a, .type n, isTy a n, rfl, .ty n, TyX.mono r1 hx, kit_ty (kit_isTy (tyName_mem hx) hn), by rw [← e]; exact q _ _ H p (Same.refl H) (.bl _)⟩
/-- the length of data -/
def lenD : D → Option Nat
  | .str z => some z.length | .lst xs => some xs.length | .tup xs => some xs.length | _ => none
theorem cd_len {k : Nat} (h : lenD x = some k) (hz : k ≤ 100000) (p : P (.int (k : Int))) : CallD K (fun xs H Q => ∃ x n, xs = [x] ∧ LenV K x H n ∧ Q (.int (n : Nat)) H) [x] P := fun M H vs Q al r q => by
  cases r with
  | cons r1 r2 =>
    cases r2
    refine ⟨_, k, rfl, ?_, q _ _ H p (Same.refl H) (.int _)⟩
    cases r1 with
    | str z => cases h; exact ⟨sz_of hz, rfl⟩
    | lst h1 h2 => cases h; exact .inl ⟨_, SqL.of (hd_of h1).2, h2.length.symm⟩
    | tup h1 h2 => cases h; exact .inr ⟨_, same_tup (same_hd M H) h1, h2.length.symm⟩
    | _ => cases h
def blD (bs : List Bool) : List D := bs.map .bl
theorem repL_bl {H : Hp} : ∀ {vs : List V} {bs : List Bool}, RepL K H vs (blD bs) → vs = bs.map V.bl
  | _, [], .nil => rfl
  | _, b :: bs, .cons (.bl _) r => by rw [List.map_cons, repL_bl (bs := bs) r]
theorem cd_all {bs : List Bool} (p : P (.bl (bs.all id))) : CallD K (rAll K) [.lst (blD bs)] P := fun M H vs Q al r q => by
  cases r with
  | cons r1 r2 =>
    cases r2
    cases r1 with
    | lst h1 h2 =>
      have e := repL_bl h2
      subst e
      exact ⟨_, bs, rfl, SqL.of (hd_of h1).2, q _ _ H p (Same.refl H) (.bl _)⟩
theorem cd_intI {r : List V → Hp → VK → Prop} (hr : ∀ xs H Q, (∃ i, xs = [V.int i] ∧ Q (.int i) H) → r xs H Q) (p : P (.int i)) : CallD K r [.int i] P := fun M H vs Q al r1 q => by
  cases r1 with
  | cons r1 r2 =>
    cases r2
    cases r1
    exact hr _ _ _ ⟨i, rfl, q _ _ H p (Same.refl H) (.int _)⟩
end
end Pf

namespace PySem
open AutoSeq1 (wpAny_loadPart')
/-! enumerate of a tuple -/
theorem enumT_new (l : Addr) (items : Array Value) (n : Nat) (dct : Option Addr) (sl : Array (Option Value)) :
    Meets (Builtin.«enumerate.__new__» ⟨[.type "enumerate", .ref l], []⟩) (fun _ R s => s.heap.get? l = some { cls := .type "tuple", dict := dct, data := .seq items n, slots := sl } ∧
      R (.ok (.ret (.ref (s.heap.push { cls := .type "tuple_iterator", data := .fields #[.ref l, .int 0 0] }).objs.size)))
        { s with heap := (s.heap.push { cls := .type "tuple_iterator", data := .fields #[.ref l, .int 0 0] }).push { cls := .type "enumerate", data := .fields #[.none, .bool false, .ref s.heap.objs.size, rawInt 0, .none, .none] } }) :=
  .of_wp fun prog w A R s h => by
    obtain ⟨hp, g, d, tk, os⟩ := s; obtain ⟨hl, h⟩ := h
    have hsub := sub_enumerate
    have hL : Heap.IsTuple (Shared.heap ⟨hp, g, d, tk, os⟩) l items := ⟨_, hl, rfl, n, rfl⟩
    wp_walk using wpAny_loadPart' hl
    refine wpAny_stack_any fun st => wpAny_pure ?_
    split
    · rename_i c _ _ _ _ _
      cases (c == Value.type "enumerate")
      · wp_walk using wpAny_loadPart' hl, wpAny_pyIter_tuple hL
        exact ⟨_, rfl, h⟩
      · wp_walk using wpAny_loadPart' hl, wpAny_pyIter_tuple hL
        exact ⟨_, rfl, h⟩
    · wp_walk using wpAny_loadPart' hl, wpAny_pyIter_tuple hL
      exact ⟨_, rfl, h⟩
theorem enumT_call {prog : Program} {w : World} {A : Around} {E : Value → Shared → Prop} {s : Shared} {l : Addr} {items : Array Value} {Q : Value → Shared → Prop} (hL : s.heap.IsTuple l items)
    (h : ∀ h', IsEnum h' (s.heap.objs.size + 1) s.heap.objs.size 0 .none → h'.IsTupleIter s.heap.objs.size l 0 → h'.objs.size = s.heap.objs.size + 2 →
      (∀ b o, s.heap.get? b = some o → h'.get? b = some o) → Q (.ref (s.heap.objs.size + 1)) { s with heap := h' }) :
    wpAny (model prog w) A (call (.type "enumerate") [.ref l]) Q E s := by
  obtain ⟨⟨c, dct, dt, sl⟩, hl, hc, n, hd⟩ := hL
  replace hc : c = .type "tuple" := hc
  replace hd : dt = .seq items n := hd
  subst hc hd
  refine callType_new F.called_enumerate (by decide) (F.typeCall_enumerate_1 _) (F.newCall_enumerate_1 _) (fun obj => F.args_object_init_2 obj _) F.entry_enumerate_new
    (enumT_new l items n dct sl) ⟨hl, ?_⟩
  have hz : (s.heap.push { cls := .type "tuple_iterator", data := .fields #[.ref l, .int 0 0] }).objs.size = s.heap.objs.size + 1 := Heap.size_push ..
  show _ ∧ _
  rw [hz]
  have he : IsEnum ((s.heap.push { cls := .type "tuple_iterator", data := .fields #[.ref l, .int 0 0] }).push
      { cls := .type "enumerate", data := .fields #[.none, .bool false, .ref s.heap.objs.size, rawInt 0, .none, .none] }) (s.heap.objs.size + 1) s.heap.objs.size 0 .none := by
    have := Heap.get?_push_size (s.heap.push { cls := .type "tuple_iterator", data := .fields #[.ref l, .int 0 0] })
      (o := { cls := .type "enumerate", data := .fields #[.none, .bool false, .ref s.heap.objs.size, rawInt 0, .none, .none] }) rfl
    rw [hz] at this; exact this
  refine ⟨⟨_, he, rfl⟩, h _ he ⟨_, Heap.get?_push_of_some _ (Heap.get?_push_size _ rfl), rfl, rfl⟩ (by rw [Heap.size_push, hz]) fun b o x => Heap.get?_push_of_some _ (Heap.get?_push_of_some _ x)⟩
theorem enumT_end {prog : Program} {w : World} {A : Around} {E : Value → Shared → Prop} {s : Shared} {e it l : Addr} {i : Nat} {items : Array Value} {old : Value} {Q : Option Value → Shared → Prop} (hh : A.handled = none)
    (he : IsEnum s.heap e it i old) (hit : s.heap.IsTupleIter it l i) (hl : s.heap.IsTuple l items) (hx : items[i]? = none)
    (hQ : ∀ h', Heap.ExtBut it s.heap h' → Q none { s with heap := h' }) : wpAny (model prog w) A (pyNext (.ref e)) Q E s := by
  have hT : s.TypeIs (.ref e) "enumerate" := ⟨_, he, rfl⟩
  unfold pyNext
  refine wpAny_bind (wpAny_attempt (wpAny_callSpecial?_slot (name := Str.ofString "__next__") hT F.slot_enumerate_next
    (wpAny_call_entry F.slot_enumerate_next hT F.entry_enumerate_next ?_ (F.args_enumerate_next_1 _))))
  show wpAny _ _ (field (.ref e) 2 >>= _) _ _ _
  refine wpAny_bind (wpAny_field he rfl (x := .ref it) rfl ?_)
  refine wpAny_bind (wpAny_nextOf_tuple_end hh hit hl hx fun h' x he' hx' => ?_)
  obtain ⟨o, ho, hc⟩ := hx'
  refine wpAny_bind (wpAny_isInstance (T := "StopIteration") (b := true) ⟨o, ho, hc⟩ isSubtype_stop ?_)
  exact wpAny_pure (hQ _ he')
end PySem
namespace Pf
open PySem L2 RZ PySem.Spec PyProof.Rows
/-- the tuple at a, each item in a new pair with its number -/
def IteT (K : PySem.W.Frag) (a : Addr) : It :=
  ⟨fun i H => ∃ (xs : List V) (x : V), SqT K H a xs ∧ xs[i]? = some x, fun i H v H' => ∃ T x, v = .ref T ∧ H T = none ∧ H' = upd H T (.tup [.int (i : Nat), x]) ∧ ∀ xs, SqT K H a xs → xs[i]? = some x, fun i H => ∃ xs : List V, SqT K H a xs ∧ xs.length ≤ i⟩
theorem turn_enumT {P : Program} {w : World} {K : PySem.W.Frag} {elts : List Expr} {kk : Nat} {tpos : Pos} (a e it : Addr) (hai : a ≠ it) (hae : a ≠ e) :
    Turn P w K (.Tuple elts kk tpos) (IteT K a) [e, it] e (fun i h => (∃ old, IsEnum h e it ((i : Nat) : Int) old) ∧ h.IsTupleIter it a i ∧ e ≠ it) where
  mem := by simp
  obj := fun i h st b hb => by
    obtain ⟨⟨old, he⟩, ⟨o, ho, hc, hd⟩, _⟩ := st
    have e' : b = e ∨ b = it := by simpa using hb
    rcases e' with z | z
    · rw [z]; exact ⟨_, he, fun v q => nomatch q⟩
    · rw [z]; exact ⟨o, ho, fun v q => by rw [hd] at q; cases q⟩
  keep := fun i h h' st k => let ⟨⟨old, he⟩, hi, hne⟩ := st; ⟨⟨old, k e (by simp) _ he⟩, hi.at fun o q => k it (by simp) o q, hne⟩
  item := by
    intro X hP hw hK hc i pins s σ H E I hf st hg
    subst hP hw hK
    obtain ⟨⟨old, he⟩, hit, hne⟩ := st
    obtain ⟨xs, x, hq, hx⟩ := hg
    obtain ⟨its, rv, p, hz⟩ := I.tuple hq
    obtain ⟨u, hu, ru⟩ := rv.get hx
    have hlt : i < its.toArray.size := by
      have := (List.getElem?_eq_some_iff.mp hu).1
      simpa using this
    have hel : e < s.heap.objs.size := Heap.lt_size he
    have hil : it < s.heap.objs.size := by obtain ⟨_, q, _⟩ := hit; exact Heap.lt_size q
    refine wpAny_pyNext_enum_itemC (Draws.tuple (A := X.A.in1) (show X.A.in1.handled = none from I.ok.hd hc) it a hai its.toArray) he (i := i) ⟨hit, p⟩ hlt hne (by simp only [List.mem_cons, List.not_mem_nil, or_false, not_or]; exact ⟨hne, Ne.symm hae⟩) fun x' h' tk hx' ho hst' hT hsz hk => ?_
    have ex : x' = u := by
      have : its.toArray[i]? = some u := by simpa using hu
      exact Option.some.inj (hx'.symm.trans this)
    subst ex
    refine ⟨_, rfl, wpAny_letOwnedTupleGo_enum (s := { s with heap := h', toks := tk + 1 }) ho fun h'' he' sb => ?_⟩
    have hT2 : h''.get? s.heap.objs.size = some { cls := .type "tuple", data := .seq #[.int i tk, x'] } := (sb.2 _ (Nat.ne_of_gt hel)).trans hT
    have new : ObjOk X.prog X.w (upd H s.heap.objs.size (.tup [.int (i : Nat), x])) h'' s.heap.objs.size (.tup [.int (i : Nat), x]) :=
      ⟨by show 2 ≤ sizeLine; decide, [.int i tk, x'], .cons ⟨_, rfl⟩ (.cons ru .nil), ⟨_, hT2, rfl, _, rfl⟩⟩
    have I1 : Inv X pins σ (upd H s.heap.objs.size (.tup [.int (i : Nat), x])) { s with heap := h'', toks := tk + 1 } :=
      I.turnedNew (ch := [e, it]) (fun b ob hb q => (sb.2 b (fun z => hb (by simp [z]))).trans (hk b ob (fun z => hb (by simp [z])) (fun z => hb (by simp [z])) q)) hf (Nat.le_refl _) new
    refine ⟨.ref s.heap.objs.size, _, I1, rfl, ⟨_, x, rfl, I.hok.fresh (Nat.le_refl _), rfl, fun ys hy => by rw [I.tuple_inj hy hq]; exact hx⟩, ⟨⟨x', ?_⟩, hst'.1.at fun o q => (sb.2 it (Ne.symm hne)).trans q, hne⟩, fun b hb => ?_⟩
    · have e1 : ((i + 1 : Nat) : Int) = (i : Int) + 1 := by omega
      rw [e1]; exact he'
    · have hb' : b < s.heap.objs.size := by
        have e' : b = e ∨ b = it := by simpa using hb
        rcases e' with z | z
        · rw [z]; exact hel
        · rw [z]; exact hil
      rw [upd_ne (Nat.ne_of_lt hb')]
      exact (hf b hb).1
  done := by
    intro X hP hw hK hc i pins s σ H E I hf st hg
    subst hP hw hK
    obtain ⟨⟨old, he⟩, hit, hne⟩ := st
    obtain ⟨xs, hq, hx⟩ := hg
    obtain ⟨its, rv, p, hz⟩ := I.tuple hq
    obtain ⟨f0, f1, f2, f3, f4, f5⟩ := hf it (by simp)
    have hl := rv.length
    have hno : its.toArray[i]? = none := by simp; omega
    exact enumT_end (I.ok.hd hc) he hit p hno fun h' eb => ⟨rfl, I.turned (t' := s.toks) (fun b o hb q => eb b o hb q) f0 f1 f3 f4 f5⟩
  self := fun A i s Q E st h => let ⟨⟨_, he⟩, _⟩ := st; wpAny_pyIter_enum he h
def iEnumA (K : PySem.W.Frag) (ta : TA) : TI := fun σ H R => ta σ H fun vs H1 => ∃ a xs, vs = [.ref a] ∧ ((SqL K H1 a xs ∧ R (Ite K a) H1) ∨ (SqT K H1 a xs ∧ R (IteT K a) H1))
theorem pi_enumA {X : Cx} {e : Expr} {ta : TA} {p pos tpos : Pos} {elts : List Expr} {kk : Nat} (K : PySem.W.Frag) (hg : Gl X "enumerate") (hm : X.mg "enumerate" = none) (ha : PA X [e] ta) (hs : starEach [e] X.env = [(false, eval e X.env)] := by rfl) (hK : X.K = K := by rfl) :
    PI X (.Tuple elts kk tpos) (.Call (.Name "enumerate" p) [e] [] pos) (iEnumA K ta) := by
  subst hK
  refine ⟨fun pins s σ H R I h => ?_⟩
  refine Call_ (ld_blt I hg hm boot_enumerate (PyProof.Rows.callWith_type1 (thn (ha.run pos pins s σ H _ I h) fun us s1 ⟨vs, H1, I1, r1, q1⟩ => ?_) hs rfl))
  obtain ⟨a, xs, ex, q1⟩ := q1
  subst ex
  cases r1 with
  | cons r rr =>
    cases rr
    cases r
    have hle : ∀ b ∈ [s1.heap.objs.size + 1, s1.heap.objs.size], s1.heap.objs.size ≤ b := fun b hb => by
      have e' : b = s1.heap.objs.size + 1 ∨ b = s1.heap.objs.size := by simpa using hb
      rcases e' with z | z
      · rw [z]; exact Nat.le_add_right _ _
      · rw [z]; exact Nat.le_refl _
    rcases q1 with ⟨hq, q⟩ | ⟨hq, q⟩
    · obtain ⟨its, rv, p', hz⟩ := I1.list hq
      refine call_enumerate_list p'.isList fun h' he hit hsz hk => wpAny_pyIter_enum he ?_
      have I2 : Inv X pins σ H1 { s1 with heap := h' } := I1.kept (t' := s1.toks) hk
      exact ⟨s1.heap.objs.size + 1, [s1.heap.objs.size + 1, s1.heap.objs.size], _, _, H1, rfl, I2, turn_enum a (s1.heap.objs.size + 1) s1.heap.objs.size, ⟨⟨.none, he⟩, hit, Nat.succ_ne_self _⟩, fun b hb => I1.fpOk (hle b hb) (I1.hok.fresh (hle b hb)), q⟩
    · obtain ⟨its, rv, p', hz⟩ := I1.tuple hq
      refine enumT_call p' fun h' he hit hsz hk => wpAny_pyIter_enum he ?_
      have I2 : Inv X pins σ H1 { s1 with heap := h' } := I1.kept (t' := s1.toks) hk
      have hal : a < s1.heap.objs.size := by obtain ⟨o, ho, _⟩ := p'; exact Heap.lt_size ho
      exact ⟨s1.heap.objs.size + 1, [s1.heap.objs.size + 1, s1.heap.objs.size], _, _, H1, rfl, I2, turn_enumT a (s1.heap.objs.size + 1) s1.heap.objs.size (Nat.ne_of_lt hal) (Nat.ne_of_lt (Nat.lt_succ_of_lt hal)), ⟨⟨.none, he⟩, hit, Nat.succ_ne_self _⟩, fun b hb => I1.fpOk (hle b hb) (I1.hok.fresh (hle b hb)), q⟩
theorem walk_enumT {K : PySem.W.Frag} {a : Addr} {xs : List V} : Walk (IteT K a) xs.length (fun H => SqT K H a xs) (YPair (fun i => some (.int (i : Nat))) (fun i => xs[i]?)) := by
  refine ⟨fun i _ hi q => ⟨xs, xs[i], q, by simp [hi]⟩, fun _ q => ⟨xs, q, Nat.le_refl _⟩, fun i H v H' _ q y => ?_⟩
  obtain ⟨T, x, h1, h2, h3, h4⟩ := y
  exact ⟨T, .int (i : Nat), x, h1, h2, h3, rfl, h4 xs q⟩
/-! a sequence that is borrowed -/
theorem numbered_get {xs : List D} {i : Nat} {f : D} (e3 : xs[i]? = some f) : (numbered xs)[i]? = some (.tup [.int (i : Nat), f]) := by
  have hi := (List.getElem?_eq_some_iff.mp e3).1
  unfold numbered
  rw [List.getElem?_map, List.getElem?_range hi]
  show some (D.tup [.int (i : Nat), xs.getD i .non]) = _
  rw [show xs.getD i .non = f by simp [List.getD, e3]]
theorem numbered_len {xs : List D} : (numbered xs).length = xs.length := by simp [numbered]
section
variable {F : Fm} {δ : List SD} {M : Addr → Bool} {σ : L2.St} {H : Hp} {PX : List D → Prop} {ta : TA} {te : TE} {P : D → Prop}
end
end Pf

namespace Pf
open PySem L2 RZ PySem.Spec PyProof.Rows PySem.W PySem.Calls
/-! ### sorted of a list or a tuple of alike data -/
theorem sortS_core {prog : Program} {w : World} {A : Around} {E : Value → Shared → Prop} {s : Shared} {β : Type} {vs : List Value} {bs : List β} {enc : β → PyData} {R : Value → β → Prop} {l : Addr} {T : String} {o : Obj} {n : Nat} {Q : Value → Shared → Prop}
    (hT : T = "list" ∨ T = "tuple") (ho : s.heap.get? l = some o) (hc : o.cls = .type T) (hd : o.data = .seq vs.toArray n) (e : EachIs R vs bs) (er : EachIs (fun v b => ∃ as, Reads s.heap v (enc b) as) vs bs) (hal : AllAlike (bs.map enc)) (hk : Sortable (bs.map enc)) (hL : bs.length ≤ sizeLine)
    (hu : ∀ b, b ∈ bs → A.units + 2 + (enc b).depth < cLine)
    (h : ∀ (h1 h2 : Heap) (out : List Value) (ep : Nat), (∀ b o, s.heap.get? b = some o → h1.get? b = some o) → (∀ b o, h1.get? b = some o → h2.get? b = some o) → out.length = bs.length → EachIs R out (bs.mergeSort (dataLe false enc)) →
      h2.get? h1.objs.size = some (seqObj "list" out.toArray ep) → Q (.ref h1.objs.size) { s with heap := h2 }) :
    wpAny (model prog w) A (call (.builtin "sorted") [.ref l]) Q E s := by
  have hlen : vs.length = bs.length := e.length
  refine call_function_entry_kw kind_sorted plain_sorted entry_sorted (args_sorted1 _) ?_
  unfold Builtin.«sorted»
  refine wpAny_bind (m := checkCount "sorted" 1 1 _) (wpAny_pure ?_)
  refine wpAny_bind (wpAny_collect_seq l hT ho hc hd (fun h1 k1 => ?_) (by rw [List.size_toArray, hlen]; exact hL))
  have evs : vs.toArray.toList = vs := by simp
  rw [evs]
  refine wpAny_bind (wpAny_newList ?_ (by rw [hlen]; exact hL))
  have hat : (h1.push (seqObj "list" vs.toArray 0)).get? h1.objs.size = some (seqObj "list" vs.toArray 0) := Heap.get?_push_size _ rfl
  have kp : ∀ b o, h1.get? b = some o → (h1.push (seqObj "list" vs.toArray 0)).get? b = some o := fun b o q => Heap.get?_push_of_some _ q
  show wpAny _ _ _ _ _ { s with heap := h1.push (seqObj "list" vs.toArray 0) }
  refine wpAny_bind (wpAny_holding (wpAny_call_entry_kw slot_list_sort ⟨_, hat, rfl⟩ entry_list_sort ?body (args_list_sort _)))
  case body =>
    show wpAny (model prog w) A.in1.in1 (Builtin.«list.sort» ⟨[.ref h1.objs.size], []⟩) _ _ _
    have old : ∀ b o, h1.get? b = some o → (sortingHeap (h1.push (seqObj "list" vs.toArray 0)) h1.objs.size vs).get? b = some o := fun b o q =>
      sortingHeap_old (Nat.ne_of_lt (Heap.lt_size q)) (kp b o q)
    have er' : EachIs (fun v b => ∃ as, Reads (sortingHeap (h1.push (seqObj "list" vs.toArray 0)) h1.objs.size vs) v (enc b) as) vs bs := er.mono fun _ _ ⟨as, r⟩ => ⟨as, PyProof.Rows.Reads.keeps (fun b o q => old b o (k1 b o q)) r⟩
    refine list_sort_vals (κ := dataKind (sortingHeap (h1.push (seqObj "list" vs.toArray 0)) h1.objs.size vs) (bs.map enc)) (s := { s with heap := h1.push (seqObj "list" vs.toArray 0) }) hat (SortsAt.data (s := { s with heap := sortingHeap (h1.push (seqObj "list" vs.toArray 0)) h1.objs.size vs }) (each_map (R := fun v d => ∃ as, Reads (sortingHeap (h1.push (seqObj "list" vs.toArray 0)) h1.objs.size vs) v d as) enc er') hal hk (bound_map hu)) (by rw [hlen]; exact hL) ?_
    obtain ⟨ep, h3⟩ := sortedHeap_at (a := h1.objs.size) (vs := vs) (out := (sortVals (dataKind (sortingHeap (h1.push (seqObj "list" vs.toArray 0)) h1.objs.size vs) (bs.map enc)) false vs vs).toArray) hat
    refine ⟨_, rfl, wpAny_pure ⟨_, rfl, h h1 _ _ ep k1 (fun b o q => ?_) (by rw [sortVals_length false rfl]; exact hlen) (sortVals_data false e er' hal) h3⟩⟩
    have hlt := Heap.lt_size q
    exact sortedHeap_old (Nat.ne_of_lt hlt) (by rw [Heap.size_push]; exact Nat.lt_succ_of_lt hlt) |>.trans (kp b o q)
/-! as a rule of the layer -/
def rSortA (K : PySem.W.Frag) : List V → Hp → VK → Prop := fun vs H Q => ∃ (a : Addr) (xs : List V) (ps : List PyData), vs = [.ref a] ∧ (SqL K H a xs ∨ SqT K H a xs) ∧ DpAll K H xs ps ∧ AllAlike ps ∧ PySem.W.Sortable ps ∧ (∀ d ∈ ps, d.depth ≤ 60) ∧
  ∀ p, H p = none → Q (.ref p) (upd H p (.lst (((xs.zip ps).mergeSort (dataLe false Prod.snd)).map Prod.fst)))
theorem dpAll_len {K : PySem.W.Frag} {H : Hp} : ∀ {xs : List V} {ps : List PyData}, DpAll K H xs ps → xs.length = ps.length
  | _, _, .nil => rfl
  | _, _, .cons _ r => congrArg Nat.succ (dpAll_len r)
theorem each_zip : ∀ {xs : List V} {us : List Value} {ps : List PyData}, Vals xs us → xs.length = ps.length → EachIs (fun u (b : V × PyData) => RelV b.1 u) us (xs.zip ps)
  | _, _, [], .nil, _ => .nil
  | _, _, p :: ps, .nil, h => by cases h
  | _, _, [], .cons _ _, h => by cases h
  | _, _, p :: ps, .cons r rs, h => .cons r (each_zip rs (Nat.succ.inj h))
theorem vals_each : ∀ {us : List Value} {bs : List (V × PyData)}, EachIs (fun u (b : V × PyData) => RelV b.1 u) us bs → Vals (bs.map Prod.fst) us
  | _, _, .nil => .nil
  | _, _, .cons r rs => .cons r (vals_each rs)
theorem each_reads {X : Cx} {pins : List (Addr × Obj)} {σ : L2.St} {H : Hp} {s : Shared} (I : Inv X pins σ H s) : ∀ {xs : List V} {us : List Value} {ps : List PyData}, DpAll X.K H xs ps → Vals xs us → EachIs (fun u (b : V × PyData) => ∃ as, Reads s.heap u b.2 as) us (xs.zip ps)
  | _, _, _, .nil, .nil => .nil
  | _, _, _, .cons d ds, .cons r rs => .cons (Dp.reads I _ _ _ d r) (each_reads I ds rs)
theorem zip_snd {α β : Type} : ∀ {xs : List α} {ps : List β}, xs.length = ps.length → (xs.zip ps).map Prod.snd = ps
  | [], [], _ => rfl
  | _ :: xs, _ :: ps, h => by rw [List.zip_cons_cons, List.map_cons, zip_snd (Nat.succ.inj h)]
theorem cr_sortA {X : Cx} (K : PySem.W.Frag) (hu : X.A.units + 64 < cLine) (hK : X.K = K := by rfl) : CallR X (.builtin "sorted") (rSortA K) := by
  subst hK
  intro pins s σ H vs us Q I r h
  obtain ⟨a, xs, ps, rfl, hs, hp, hal, hso, hdp, q⟩ := h
  obtain ⟨u, rfl, ru⟩ := vals1 r
  obtain rfl : u = Value.ref a := ru
  have hl := dpAll_len hp
  have key : ∀ (T : String) (o : Obj) (n : Nat) (its : List Value), (T = "list" ∨ T = "tuple") → s.heap.get? a = some o → o.cls = .type T → o.data = .seq its.toArray n → Vals xs its → xs.length ≤ sizeLine → wpAny (model X.prog X.w) X.A (call (.builtin "sorted") [.ref a]) (EP X pins σ Q) X.xe s := by
    intro T o n its hT ho hc hd rv hz
    refine sortS_core (β := V × PyData) (enc := Prod.snd) (R := fun u b => RelV b.1 u) (bs := xs.zip ps) hT ho hc hd (each_zip rv hl) (each_reads I hp rv) (by rw [zip_snd hl]; exact hal) (by rw [zip_snd hl]; exact hso)
      (by rw [List.length_zip, hl, Nat.min_self, ← hl]; exact hz) (fun b hb => ?_) fun h1 h2 out ep k1 k2 hlen eo hnew => ?_
    · have hm : b.2 ∈ ps := by
        have := List.mem_map_of_mem (f := Prod.snd) hb
        rw [zip_snd hl] at this
        exact this
      have := hdp _ hm
      omega
    · have I1 : Inv X pins σ H { s with heap := h1 } := I.kept (t' := s.toks) k1
      have hv := vals_each eo
      have hlen2 : (((xs.zip ps).mergeSort (dataLe false Prod.snd)).map Prod.fst).length ≤ sizeLine := by
        rw [List.length_map, List.length_mergeSort, List.length_zip, hl, Nat.min_self, ← hl]
        exact hz
      exact ⟨.ref _, upd H h1.objs.size (.lst (((xs.zip ps).mergeSort (dataLe false Prod.snd)).map Prod.fst)), I1.laid (t' := s.toks) k2 (Nat.le_refl _) ⟨hlen2, out, ep, hv, hnew⟩, rfl, q _ (I1.hok.fresh (Nat.le_refl _))⟩
  rcases hs with hs | hs
  · obtain ⟨its, rv, ⟨o, n, ho, hc, _, hd⟩, hz⟩ := I.list hs
    exact key "list" o n its (.inl rfl) ho hc hd rv hz
  · obtain ⟨its, rv, ⟨o, ho, hc, n, hd⟩, hz⟩ := I.tuple hs
    exact key "tuple" o n its (.inr rfl) ho hc hd rv hz
/-! data as the library tells it -/
mutual
def pyd : D → PyData
  | .bl b => .bool b | .int i => .int i | .str x => .str x
  | .lst xs => .list (pydL xs) | .tup xs => .tuple (pydL xs)
  | _ => .none
def pydL : List D → List PyData
  | [] => []
  | x :: xs => pyd x :: pydL xs
end
mutual
/-- none, bools, ints, texts, lists and tuples of these -/
def plainD : D → Bool
  | .non => true | .bl _ => true | .int _ => true | .str _ => true
  | .lst xs => plainL xs | .tup xs => plainL xs
  | _ => false
def plainL : List D → Bool
  | [] => true
  | x :: xs => plainD x && plainL xs
end
theorem pydL_map : ∀ xs : List D, pydL xs = xs.map pyd
  | [] => by simp only [pydL, List.map_nil]
  | x :: xs => by simp only [pydL, List.map_cons, pydL_map xs]
mutual
theorem rep_dp {K : PySem.W.Frag} {H : Hp} : ∀ {v : V} {d : D}, Rep K H v d → plainD d = true → Dp K H v (pyd d)
  | _, _, .non, _ => by simp only [pyd]; exact .non
  | _, _, .bl b, _ => by simp only [pyd]; exact .bl b
  | _, _, .int i, _ => by simp only [pyd]; exact .int i
  | _, _, .str x, _ => by simp only [pyd]; exact .str x
  | _, _, .lst h r, p => by
    simp only [pyd]
    simp only [plainD] at p
    exact .lst (SqL.of h) (repL_dp r p)
  | _, _, .tup h r, p => by
    simp only [pyd]
    simp only [plainD] at p
    exact .tup h (repL_dp r p)
  | _, _, .dic _ _, p => by simp [plainD] at p
  | _, _, .ins _ _, p => by simp [plainD] at p
  | _, _, .ty _, p => by simp [plainD] at p
  | _, _, .adr _, p => by simp [plainD] at p
  | _, _, .exc _ _ _, p => by simp [plainD] at p
  | _, _, .fn _ _, p => by simp [plainD] at p
theorem repL_dp {K : PySem.W.Frag} {H : Hp} : ∀ {v : List V} {d : List D}, RepL K H v d → plainL d = true → DpAll K H v (pydL d)
  | _, _, .nil, _ => by simp only [pydL]; exact .nil
  | _, _, .cons h r, p => by
    simp only [pydL]
    simp only [plainL, Bool.and_eq_true] at p
    exact .cons (rep_dp h p.1) (repL_dp r p.2)
end
/-- the one order that sorted gives -/
def sortD (ds : List D) : List D := ds.mergeSort (dataLe false pyd)
structure SortOk (ds : List D) : Prop where
  pl : plainL ds = true
  al : AllAlike (ds.map pyd)
  so : PySem.W.Sortable (ds.map pyd)
  dp : ∀ d ∈ ds, (pyd d).depth ≤ 60
theorem repL_zip {K : PySem.W.Frag} {H : Hp} {xs : List V} {ds : List D} (r : RepL K H xs ds) : ∀ p ∈ xs.zip ds, Rep K H p.1 p.2 := by
  induction xs generalizing ds with
  | nil =>
    intro p hp
    simp at hp
  | cons x xs ih =>
    cases r with
    | cons h r =>
      intro p hp
      rw [List.zip_cons_cons] at hp
      rcases List.mem_cons.mp hp with e | hp
      · subst e
        exact h
      · exact ih r p hp
theorem repL_of_pairs {K : PySem.W.Frag} {H : Hp} : ∀ {L : List (V × D)}, (∀ p ∈ L, Rep K H p.1 p.2) → RepL K H (L.map Prod.fst) (L.map Prod.snd)
  | [], _ => .nil
  | p :: L, h => .cons (h p (by simp)) (repL_of_pairs fun q hq => h q (List.mem_cons_of_mem _ hq))
theorem repL_sort {K : PySem.W.Frag} {H : Hp} {xs : List V} {ds : List D} (r : RepL K H xs ds) : RepL K H (((xs.zip (ds.map pyd)).mergeSort (dataLe false Prod.snd)).map Prod.fst) (sortD ds) := by
  have e1 : xs.zip (ds.map pyd) = (xs.zip ds).map fun p => (p.1, pyd p.2) := by
    rw [List.zip_map_right]
    rfl
  have e2 : ((xs.zip ds).mergeSort (dataLe false fun p : V × D => pyd p.2)).map (fun p => (p.1, pyd p.2)) = ((xs.zip ds).map fun p => (p.1, pyd p.2)).mergeSort (dataLe false Prod.snd) :=
    sort_maps _ fun a _ b _ => rfl
  have e3 : ((xs.zip ds).mergeSort (dataLe false fun p : V × D => pyd p.2)).map Prod.snd = ((xs.zip ds).map Prod.snd).mergeSort (dataLe false pyd) :=
    sort_maps _ fun a _ b _ => rfl
  rw [e1, ← e2, List.map_map]
  rw [zip_snd r.length] at e3
  unfold sortD
  rw [← e3]
  exact repL_of_pairs fun p hp => repL_zip r p ((List.mergeSort_perm _ _).mem_iff.mp hp)
section
variable {F : Fm} {δ : List SD} {te : TE} {PL : List D → Prop}
theorem en_sorted (h : Ev F te δ fun d => ∃ xs, (d = .lst xs ∨ d = .tup xs) ∧ SortOk xs ∧ PL (sortD xs)) : EvN F (tCB (rSortA F.K) (tCons te tNil)) δ PL := fun M σ H Q c q =>
  h M σ H _ c fun v d H1 p c1 e1 r => by
    obtain ⟨xs, hd', ok, pz⟩ := p
    have key : ∀ (a : Addr) (vs : List V), (SqL F.K H1 a vs ∨ SqT F.K H1 a vs) → RepL F.K (hd M H1) vs xs → rSortA F.K [.ref a] H1 Q := fun a vs hs hr => by
      refine ⟨a, vs, xs.map pyd, rfl, hs, ?_, ok.al, ok.so, fun d hd => ?_, fun p hp => ?_⟩
      · rw [← pydL_map]
        exact repL_dp (hr.mono (same_hd M H1)) ok.pl
      · obtain ⟨x, hx, rfl⟩ := List.mem_map.mp hd
        exact ok.dp x hx
      have hp0 : H p = none := by
        cases z : H p with
        | none => rfl
        | some o =>
          have := e1 p o (c1.nob hp) z
          rw [hp] at this
          cases this
      refine q p _ (sortD xs) _ pz (c1.hide hp) hp0 (c1.h0 hp) (c1.nob hp) (c1.nown hp) (e1.trans (StepB.of (same_new hp))) upd_same ((repL_sort hr).mono fun b u e => ?_)
      obtain ⟨m, h⟩ := hd_of e
      have n : b ≠ p := ne_of_none h hp
      exact hd_at (by rw [hid_ne n]; exact m) (by rw [upd_ne n]; exact h)
    rcases hd' with rfl | rfl
    · cases r with
      | lst h1 h2 => exact key _ _ (.inl (SqL.of (hd_of h1).2)) h2
    · cases r with
      | tup h1 h2 => exact key _ _ (.inr (same_tup (same_hd M H1) h1)) h2
end
end Pf

namespace Pf
open PySem L2 RZ PySem.Spec PyProof.Rows
/-! ### dicts -/
def valD (kvs : List (Key × D)) (k : Key) : Option D := (kvs.find? fun kv => decide (kv.1 = k)).map (·.2)
def putD (kvs : List (Key × D)) (k : Key) (v : D) : List (Key × D) :=
  if (kvs.any fun kv => decide (kv.1 = k)) = true then kvs.map (fun kv => if kv.1 = k then (kv.1, v) else kv) else kvs ++ [(k, v)]
section
variable {K : PySem.W.Frag} {H : Hp}
theorem RepK.val : ∀ {vs : List (Key × V)} {ds : List (Key × D)} (k : Key), RepK K H vs ds → (valD ds k = none → valV vs k = none) ∧ ∀ d, valD ds k = some d → ∃ v, valV vs k = some v ∧ Rep K H v d
  | _, _, k, .nil => ⟨fun _ => rfl, fun d h => by simp [valD] at h⟩
  | _, _, k, .cons (k := k0) (v := v0) (vs := vs) (d := d0) (ds := ds) h r => by
    by_cases e : k0 = k
    · subst e
      refine ⟨fun h => by simp [valD] at h, fun d hd => ⟨v0, by simp [valV], ?_⟩⟩
      have : d0 = d := by simpa [valD] using hd
      rw [← this]
      exact h
    · have e1 : valV ((k0, v0) :: vs) k = valV vs k := by simp [valV, List.find?_cons, e]
      have e2 : valD ((k0, d0) :: ds) k = valD ds k := by simp [valD, List.find?_cons, e]
      rw [e1, e2]
      exact RepK.val k r
theorem RepK.any : ∀ {vs : List (Key × V)} {ds : List (Key × D)} (k : Key), RepK K H vs ds → (vs.any fun kv => decide (kv.1 = k)) = (ds.any fun kv => decide (kv.1 = k))
  | _, _, k, .nil => rfl
  | _, _, k, .cons h r => by rw [List.any_cons, List.any_cons, RepK.any k r]
theorem RepK.length : ∀ {vs : List (Key × V)} {ds : List (Key × D)}, RepK K H vs ds → vs.length = ds.length
  | _, _, .nil => rfl
  | _, _, .cons _ r => congrArg Nat.succ (RepK.length r)
theorem RepK.snoc : ∀ {vs : List (Key × V)} {ds : List (Key × D)} {k : Key} {v : V} {d : D}, RepK K H vs ds → Rep K H v d → RepK K H (vs ++ [(k, v)]) (ds ++ [(k, d)])
  | _, _, k, v, d, .nil, h => .cons h .nil
  | _, _, k, v, d, .cons h0 r, h => .cons h0 (RepK.snoc r h)
theorem RepK.repl : ∀ {vs : List (Key × V)} {ds : List (Key × D)} (k : Key) {v : V} {d : D}, RepK K H vs ds → Rep K H v d → RepK K H (vs.map fun kv => if kv.1 = k then (kv.1, v) else kv) (ds.map fun kv => if kv.1 = k then (kv.1, d) else kv)
  | _, _, k, v, d, .nil, h => .nil
  | _, _, k, v, d, .cons (k := k0) h0 r, h => by
    rw [List.map_cons, List.map_cons]
    by_cases e : k0 = k
    · simp only [e, if_true]
      exact .cons h (RepK.repl k r h)
    · simp only [e, if_false]
      exact .cons h0 (RepK.repl k r h)
theorem RepK.put {vs : List (Key × V)} {ds : List (Key × D)} {k : Key} {v : V} {d : D} (r : RepK K H vs ds) (h : Rep K H v d) : RepK K H (putK vs k v) (putD ds k d) := by
  unfold putK putD
  rw [RepK.any k r]
  by_cases e : (ds.any fun kv => decide (kv.1 = k)) = true
  · rw [if_pos e, if_pos e]
    exact RepK.repl k r h
  · rw [if_neg e, if_neg e]
    exact RepK.snoc r h
end
/-- a key as data -/
def kD : Key → D
  | .inl i => .int i
  | .inr x => .str x
theorem rep_key {K : PySem.W.Frag} {H : Hp} {k : Key} {v : V} (r : Rep K H v (kD k)) : v = kV k := by
  cases k with
  | inl i => cases r; rfl
  | inr x => cases r; rfl
theorem putD_len {kvs : List (Key × D)} {k : Key} {d : D} : (putD kvs k d).length ≤ kvs.length + 1 := by
  unfold putD
  split
  · rw [List.length_map]; omega
  · rw [List.length_append]; simp
theorem putD_new {kvs : List (Key × D)} {k : Key} {d : D} (h : valD kvs k = none) : putD kvs k d = kvs ++ [(k, d)] := by
  unfold putD
  rw [if_neg]
  intro e
  obtain ⟨p, hp, e⟩ := List.any_eq_true.mp e
  have : kvs.find? (fun kv => decide (kv.1 = k)) = none := by
    unfold valD at h
    exact Option.map_eq_none_iff.mp h
  exact absurd e (List.find?_eq_none.mp this p hp)
section
variable {F : Fm} {δ : List SD} {te tv td ty : TE} {P : D → Prop} {R : PD} {tt : TT}
theorem do_ownDic {i : Nat} (h : ∀ p, R.nx (δ.set i (.own p (.dic [])))) : Do F (tAsg tDNewK (gName i)) δ R := fun M σ H E c a b k d => by
  intro p hp
  refine a (hid M p) _ _ _ (h p) ((c.hide hp (o := .dK [])).setOwn i hid_same upd_same (.dic .nil) (c.h0 hp) (c.nob hp) fun j es _ => c.nown hp j es) fun x o hx => ?_
  obtain ⟨m, h1⟩ := hd_of hx
  have n : x ≠ p := ne_of_none h1 hp
  exact hd_at (by rw [hid_ne n]; exact m) (by rw [upd_ne n]; exact h1)
theorem do_dput {i : Nat} {p : Addr} {kvs : List (Key × D)} (hi : δ[i]? = some (.own p (.dic kvs))) (hl : kvs.length < 100000) (h : Ev F tv δ fun v => Ev F ty δ fun y => ∃ k, y = kD k ∧ R.nx (δ.set i (.own p (.dic (putD kvs k v))))) :
    Do F (sDPut (tVar i) ty tv) δ R := fun M σ H E c a b k d => by
  refine h M σ H _ c fun v x H1 p1 c1 e1 r1 => ?_
  obtain ⟨s, hs, e, m, ho, hp, rr⟩ := c1.sl i _ hi
  subst e
  refine ⟨_, hs, ?_⟩
  refine p1 M σ H1 _ c1 fun w y H2 p2 c2 e2 r2 => ?_
  obtain ⟨k0, rfl, p2⟩ := p2
  have ew := rep_key r2
  subst ew
  obtain ⟨s', hs', e', m', ho', hp', rr'⟩ := c2.sl i _ hi
  rw [hs] at hs'
  cases hs'
  cases rr' with
  | @dic vs _ rr' =>
    refine ⟨p, _, rfl, .k hp' (by rw [rr'.length]; exact sz_lt hl), ?_⟩
    refine a M σ _ _ p2 (c2.put hi (.dic (rr'.put (r1.mono (hd_step c1 e2))))) ?_
    rw [hd_upd m]
    exact (hd_step c e1).trans (hd_step c1 e2)
/-- k in d, d one's own -/
theorem ev_dinO {i : Nat} {p : Addr} {kvs : List (Key × D)} (hi : δ[i]? = some (.own p (.dic kvs))) (h : Ev F ty δ fun y => ∃ k, y = kD k ∧ P (.bl (valD kvs k).isSome)) : Ev F (tDIn ty (tVar i)) δ P := fun M σ H Q c q =>
  h M σ H _ c fun w y H1 p1 c1 e1 r1 => by
    obtain ⟨k0, rfl, p1⟩ := p1
    have ew := rep_key r1
    subst ew
    obtain ⟨s, hs, e, m, ho, hp, rr⟩ := c1.sl i _ hi
    subst e
    cases rr with
    | @dic vs _ rr =>
      refine ⟨_, hs, p, valV vs k0, rfl, .k hp, ?_⟩
      have e : (valV vs k0).isSome = (valD kvs k0).isSome := by
        obtain ⟨g1, g2⟩ := rr.val k0
        cases z : valD kvs k0 with
        | none => rw [g1 z]; rfl
        | some d =>
          obtain ⟨v, g3, _⟩ := g2 d z
          rw [g3]
          rfl
      rw [e]
      exact q _ _ H1 p1 c1 e1 (.bl _)
end
/-! ### instances -/
def putFD (f : Str) (v : D) : List (Str × D) → List (Str × D)
  | [] => [(f, v)]
  | (g, x) :: r => if g = f then (g, v) :: r else (g, x) :: putFD f v r
theorem RepF.put {K : PySem.W.Frag} {H : Hp} {f : Str} {v : V} {d : D} (h : Rep K H v d) : ∀ {vs : List (Str × V)} {ds : List (Str × D)}, RepF K H vs ds → RepF K H (putF f v vs) (putFD f d ds)
  | _, _, .nil => .cons h .nil
  | _, _, .cons (k := k) h0 r => by
    unfold putF putFD
    by_cases e : k = f
    · rw [if_pos e, if_pos e]
      exact .cons h r
    · rw [if_neg e, if_neg e]
      exact .cons h0 (RepF.put h r)
theorem RepF.length {K : PySem.W.Frag} {H : Hp} : ∀ {vs : List (Str × V)} {ds : List (Str × D)}, RepF K H vs ds → vs.length = ds.length
  | _, _, .nil => rfl
  | _, _, .cons _ r => congrArg Nat.succ (RepF.length r)
section
variable {F : Fm} {δ : List SD} {ta : TA} {te tv : TE} {P : D → Prop} {R : PD} {C : Addr} {f : Str} {E : XK}
end
/-! ### into an __init__ -/
theorem hid_mono {M : Addr → Bool} {H1 H : Hp} {x : Addr} (hx : H1 x = none) (s : Same H1 H) : Same (hd M H1) (hd (hid M x) H) := fun a o e => by
  obtain ⟨m, h⟩ := hd_of e
  exact hd_at (by rw [hid_ne (ne_of_none h hx)]; exact m) (s _ _ h)
section
variable {K : PySem.W.Frag} {N : List Str} {vs : List V} {H : Hp} {Q : VK} {E : XK} {t : TS} {C : Addr}
end
end Pf

namespace Pf
open PySem L2 RZ PySem.Spec PyProof.Rows PySem.SeqAt
/-! ### len, bool, repr, == and != by defs of one's own -/
section
variable {M : Model} {prog : Program} {w : World} {A : Around} {E : Value → Shared → Prop} {s : Shared} {K : PySem.W.Frag} {x C f : Addr} {ox : Obj} {od : Option Obj} {b tb : Value}
end
/-! as rules of the layer -/
section
variable {X : Cx} {CX : CXT} {n : Nat} {C g : Addr} {sp : Sp} {E : XK}
end
/-! on data -/
/-- what of its class an instance is asked -/
structure ClsF (K : PySem.W.Frag) (C : Addr) : Prop where
  cl : Cls K C
  ca : PySem.W.findIn K (.ref C) "__class__" = some (some (.builtin "object.__class__"))
  cn : PySem.W.specialIn K (.builtin "object.__class__") "__get__" = some (some (.builtin "getset_descriptor.__get__"))
  ct : PySem.W.takesIn K (.builtin "object.__class__") = some true
  cm : PySem.W.mroIn K C (.type "object") = some true
theorem ClsF.ty {K : PySem.W.Frag} {C a dx : Addr} {H : Hp} {fs : List (Str × V)} (c : ClsF K C) (e : H a = some (.ins C dx fs)) : TyX K H (.ref a) (.ref C) := .base (.ins e c.cl c.ca c.cn c.ct c.cm)
section
variable {K : PySem.W.Frag} {C : Addr} {E : XK} {Pre : List D → Prop} {Post : List D → D → Prop} {P : D → Prop} {fs gs : List (Str × D)} {y : D}
end
/-! methods and properties -/
section
variable {F : Fm} {δ : List SD} {ta : TA} {te : TE} {P : D → Prop} {C : Addr} {m : Str} {Pre : List D → Prop} {Post : List D → D → Prop} {E : XK}
/-- a method that makes a new list -/
def spN (K : PySem.W.Frag) (Pre : List D → Prop) (Post : List D → List D → Prop) : Sp := fun vs H Q _ => ∃ (M : Addr → Bool) (ds : List D), Al M H ∧ RepL K (hd M H) vs ds ∧ Pre ds ∧
  ∀ p us es H', Post ds es → H p = none → Same H H' → H' p = some (.lst us) → RepL K (hd (hid M p) H') us es → Q (.ref p) H'
/-- p, new, is hidden -/
theorem Ctx.take {M : Addr → Bool} {σ : L2.St} {H H' : Hp} (c : Ctx F M σ H δ) {p : Addr} {us : List V} (hp : H p = none) (s : Same H H') (h : H' p = some (.lst us)) : Ctx F (hid M p) σ H' δ := by
  have c' := c.same s
  have ne : ∀ a, F.M0 a = true → a ≠ p := fun a m e => by
    subst e
    obtain ⟨o, h⟩ := c.al0 _ m
    have := c.h0 hp
    rw [h] at this
    cases this
  refine ⟨fun a m => ?_, c.al0, fun a m => hid_le a (c.m0 a m), c'.fr, ⟨c'.bg.1, fun r z => (c'.bg.2 r z).imp id fun t => ⟨t.1, fun a φ m y => ?_⟩⟩, c.ln, fun i x hx => ?_, c.dj, c.oh⟩
  rotate_left
  · by_cases e : a = p
    · rw [e, h] at y
      cases y
    · rw [hid_ne e] at m
      exact t.2 a φ m y
  rotate_right
  · by_cases e : a = p
    · subst e
      exact ⟨_, h⟩
    · rw [hid_ne e] at m
      exact c'.al a m
  · have hs : Same (hd M H) (hd (hid M p) H') := hid_mono hp s
    obtain ⟨y, h1, h2⟩ := c.sl i x hx
    refine ⟨y, h1, ?_⟩
    cases x with
    | un => trivial
    | dat d =>
      obtain ⟨v, e, r⟩ := h2
      exact ⟨v, e, r.mono hs⟩
    | own q ds =>
      obtain ⟨e, m, vs, h3, r⟩ := h2
      exact ⟨e, hid_le q m, vs, s _ _ h3, r.mono hs⟩
    | bag => exact h2
    | sq ds =>
      obtain ⟨q, vs, g1, g2, g3, g4⟩ := h2
      exact ⟨q, vs, g1, g2, g3, g4.mono hs⟩
    | sl ds =>
      obtain ⟨q, vs, g1, g2, g3, g4⟩ := h2
      exact ⟨q, vs, g1, g2, g3, g4.mono hs⟩
    | oll q qs => exact ⟨h2.1, h2.2.mono (fun a m _ => hid_le a m) (fun a o _ _ _ h => s a o h) hs⟩
end
section
variable {K : PySem.W.Frag} {N : List Str} {vs : List V} {H : Hp} {Q : VK} {E : XK} {te : TE} {t : TS} {Pre : List D → Prop} {Post : List D → List D → Prop}
end
end Pf

namespace Pf
open PySem L2 RZ
/-! ### the layer's rules with the written part K named: in a comprehension's block its name would be the block's -/
section
variable {X : Cx} {tg e e2 o value : Expr} {te to ta tv : TE} {t : TA} {pos p apos cpos : Pos}
theorem ixL (K : PySem.W.Frag) (h : X.K = K := by rfl) : IxR X (rIxL K) := by subst h; exact ix_list
theorem ixT (K : PySem.W.Frag) (h : X.K = K := by rfl) : IxR X (rIxT K) := by subst h; exact ix_tup
theorem ixA (K : PySem.W.Frag) (h : X.K = K := by rfl) : IxR X (rIx K) := by subst h; exact ix_seq
theorem slL (K : PySem.W.Frag) (h : X.K = K := by rfl) : SlR X (rSlL K) := by subst h; exact sl_list
def rLenK (K : PySem.W.Frag) : List V → Hp → VK → Prop := fun xs H Q => ∃ x n, xs = [x] ∧ LenV K x H n ∧ Q (.int (n : Nat)) H
theorem callLen (K : PySem.W.Frag) (h : X.K = K := by rfl) : CallR X (.builtin "len") (rLenK K) := by subst h; exact call_len
theorem callIsi (K : PySem.W.Frag) (h : X.K = K := by rfl) : CallR X (.builtin "isinstance") (rIsi K) := by subst h; exact call_isi
theorem callIsiT (K : PySem.W.Frag) (h : X.K = K := by rfl) : CallR X (.builtin "isinstance") (rIsiT K) := by subst h; exact call_isiT
def rListK (K : PySem.W.Frag) : List V → Hp → VK → Prop := fun xs H Q => ∃ p ys, xs = [.ref p] ∧ (SqL K H p ys ∨ SqT K H p ys) ∧ ∀ l, H l = none → Q (.ref l) (upd H l (.lst ys))
theorem callList (K : PySem.W.Frag) (h : X.K = K := by rfl) : CallR X (.type "list") (rListK K) := by subst h; exact call_list_of
def rTupleK (K : PySem.W.Frag) : List V → Hp → VK → Prop := fun xs H Q => ∃ p ys, xs = [.ref p] ∧ ((SqL K H p ys ∧ ∀ l, H l = none → Q (.ref l) (upd H l (.tup ys))) ∨ (SqT K H p ys ∧ Q (.ref p) H))
theorem callTuple (K : PySem.W.Frag) (h : X.K = K := by rfl) : CallR X (.type "tuple") (rTupleK K) := by subst h; exact call_tuple_of
theorem callAll (K : PySem.W.Frag) (hc : X.calm = true := by rfl) (h : X.K = K := by rfl) : CallR X (.builtin "all") (rAll K) := by subst h; exact cr_all hc
theorem opNotIn (K : PySem.W.Frag) (h : X.K = K := by rfl) : OpR X (compareOp .NotIn) (rIn K true) := by subst h; exact op_notIn_seq
theorem opNeD (K : PySem.W.Frag) (hu : X.A.units + 64 < cLine) (h : X.K = K := by rfl) : OpR X (compareOp .NotEq) (rNeD K) := by subst h; exact op_neD hu
theorem piL (K : PySem.W.Frag) (hl : PE X e te) (h : X.K = K := by rfl) : PI X tg e (iList K te) := by subst h; exact pi_list hl
theorem pgTup (K : PySem.W.Frag) {es : List Expr} {k : Nat} {ts : TGs} {n : Nat} (hc : X.calm = true) (hh : PGs X es ts)
    (hn : (assignEach es X.env).length = n := by rfl) (hst : (assignEach es X.env).findIdx? (·.1) = none := by rfl) (h : X.K = K := by rfl) : PG X (.Tuple es k pos) (gTup K n ts) := by subst h; exact pg_tup hc hh hn hst
end
/-! ### a call by keywords alone -/
section
variable {X : Cx} {CX : CXT} {k : Nat} {f : Addr} {fd : FuncData} {ps ks : List Str} {sp : Sp} {E : XK} {x : Str} {p pos : Pos} {kws : List Keyword} {tk : TA} {g : List Value → List Value → List Value} {gV : List V → List V → List V}
theorem pe_callK0 (F : FnOk X.prog X.w X.K X.mg X.base CX k f fd ps sp) (hr : Room k X.A) (hg : Gl X x) (hm : X.mg x = some (.ref f)) (hk : PySem.W.keepIn X.K (.ref f) = true) (hb : KBinds X.K fd ps ks g gV) (hx : Passes CX X E)
    (hkw : PK X kws tk) (hall : (backToKw pos (keywordEach kws X.env)).all (·.1.isSome) = true := by rfl) (hks : (backToKw pos (keywordEach kws X.env)).filterMap (·.1) = ks := by rfl)
    (hdb : (x == ("__debug__" : Str)) = false := by decide)
    (hpl : ((backTo pos (starEach [] X.env)).any (·.1) || (backToKw pos (keywordEach kws X.env)).any (·.1.isNone)) = false := by rfl) :
    PE X (.Call (.Name x p) [] kws pos) (tCallK sp gV E tNil tk) := by
  refine ⟨fun pins s σ H Q I h => ?_⟩
  refine wpAny_Call_Name_kw (ld_glob I hg hm ?_ hdb)
  refine PySem.W.callWith_KW0 (h₀ := X.base) I.ok.mod.kin hk hall ?_ hpl
  refine thn (hkw.run pos pins s σ H _ I h) fun ws s2 ⟨zs, H2, I2, rz, q2⟩ => ⟨I2.kIn, ?_⟩
  rw [hks]
  exact run_fnk (us := []) (vs := []) F hr hb hx I2 .nil rz q2
end
section
variable {F : Fm} {δ : List SD} {ta tk : TA} {P : D → Prop} {Pre : List D → Prop} {Post : List D → D → Prop} {E : XK} {gV : List V → List V → List V} {gD : List D → List D → List D}
end
section
variable {K : PySem.W.Frag} {P : D → Prop} {x : D} {F : Fm} {δ : List SD} {te : TE}
theorem cd_lenK {k : Nat} (h : lenD x = some k) (hz : k ≤ 100000) (p : P (.int (k : Int))) : CallD K (rLenK K) [x] P := cd_len h hz p
/-- list(x): a new list of the same items -/
theorem en_listOf {PL : List D → Prop} (h : Ev F te δ fun d => ∃ xs, (d = .lst xs ∨ d = .tup xs) ∧ PL xs) : EvN F (tCB (rListK F.K) (tCons te tNil)) δ PL := fun M σ H Q c q =>
  h M σ H _ c fun v d H1 p c1 e1 r => by
    obtain ⟨xs, hd', pz⟩ := p
    have key : ∀ (a : Addr) (vs : List V), (SqL F.K H1 a vs ∨ SqT F.K H1 a vs) → RepL F.K (hd M H1) vs xs → rListK F.K [.ref a] H1 Q := fun a vs hs hr => by
      refine ⟨a, vs, rfl, hs, fun p hp => ?_⟩
      have hp0 : H p = none := by
        cases z : H p with
        | none => rfl
        | some o =>
          have := e1 p o (c1.nob hp) z
          rw [hp] at this
          cases this
      refine q p vs xs _ pz (c1.hide hp) hp0 (c1.h0 hp) (c1.nob hp) (c1.nown hp) (e1.trans (StepB.of (same_new hp))) upd_same (hr.mono fun b u e => ?_)
      obtain ⟨m, h⟩ := hd_of e
      have n : b ≠ p := ne_of_none h hp
      exact hd_at (by rw [hid_ne n]; exact m) (by rw [upd_ne n]; exact h)
    rcases hd' with rfl | rfl
    · cases r with
      | lst h1 h2 => exact key _ _ (.inl (SqL.of (hd_of h1).2)) h2
    · cases r with
      | tup h1 h2 => exact key _ _ (.inr (same_tup (same_hd M H1) h1)) h2
end
end Pf

namespace Pf
open PySem L2 RZ PySem.Spec PyProof.Rows
/-! ### a sequence that is borrowed, walked and asked -/
/-- a list or a tuple -/
def iSeq (K : PySem.W.Frag) (tl : TE) : TI := fun σ H R => tl σ H fun x H1 => ∃ a xs, x = .ref a ∧ ((SqL K H1 a xs ∧ R (Itl K a) H1) ∨ (SqT K H1 a xs ∧ R (Itt K a) H1))
theorem piS {X : Cx} {tg l : Expr} {tl : TE} (K : PySem.W.Frag) (hl : PE X l tl) (hK : X.K = K := by rfl) : PI X tg l (iSeq K tl) := by
  subst hK
  refine ⟨fun pins s σ H R I h => ?_⟩
  refine thn (hl.run pins s σ H _ I h) fun v s1 ⟨x, H1, I1, r1, q1⟩ => ?_
  obtain ⟨a, xs, e, q⟩ := q1
  subst e
  cases r1
  have fp : ∀ b ∈ [s1.heap.objs.size], _ := fun b hb => by
    have e : b = s1.heap.objs.size := by simpa using hb
    subst e
    exact I1.fpOk (Nat.le_refl _) (I1.hok.fresh (Nat.le_refl _))
  rcases q with ⟨hq, q⟩ | ⟨hq, q⟩
  · obtain ⟨its, rv, p, hz⟩ := I1.list hq
    refine wpAny_pyIter_list p.isList ?_
    exact ⟨s1.heap.objs.size, [s1.heap.objs.size], _, _, H1, rfl, I1.kept (t' := s1.toks) fun b o e => Heap.get?_push_of_some _ e, turn_list a _, ⟨_, Heap.get?_push_size _ rfl, rfl, rfl⟩, fp, q⟩
  · obtain ⟨its, rv, p, hz⟩ := I1.tuple hq
    refine wpAny_pyIter_tuple (show s1.heap.IsTuple a its.toArray from p) ?_
    exact ⟨s1.heap.objs.size, [s1.heap.objs.size], _, _, H1, rfl, I1.kept (t' := s1.toks) fun b o e => Heap.get?_push_of_some _ e, turn_tuple a _, ⟨_, Heap.get?_push_size _ rfl, rfl, rfl⟩, fp, q⟩
section
variable {F : Fm} {δ : List SD} {M : Addr → Bool} {σ : L2.St} {H : Hp} {PX : List D → Prop} {ta : TA} {te : TE} {P : D → Prop}
/-- the same of data that is a list -/
theorem it_seqL (h : Ev F te δ fun d => ∃ ds, d = .lst ds ∧ PX ds) : ItD F (iSeq F.K te) δ PX := fun M σ H R c q =>
  h M σ H _ c fun v d H1 p c1 e r => by
    obtain ⟨ds, rfl, p⟩ := p
    cases r with
    | lst h1 h2 => exact ⟨_, _, rfl, .inl ⟨SqL.of (hd_of h1).2, q _ ds H1 p c1 e (walkD_list h1 h2)⟩⟩
theorem it_enumL (h : Ev F te δ fun d => ∃ ds, d = .lst ds ∧ PX (numbered ds)) : ItD F (iEnumA F.K (tCons te tNil)) δ PX := fun M σ H R c q =>
  h M σ H _ c fun v d H1 p c1 e r => by
    obtain ⟨ds, rfl, p⟩ := p
    cases r with
    | @lst a vs _ h1 h2 =>
      refine ⟨_, _, rfl, .inl ⟨SqL.of (hd_of h1).2, q _ _ H1 p c1 e ⟨fun H => SqL F.K H a vs, YPair (fun i => some (.int (i : Nat))) (fun i => vs[i]?), ?_, fun M2 H2 e _ => (SqL.of (hd_of (e _ _ h1)).2 : SqL F.K H2 a vs), fun M2 H2 i x H3 al e y => ?_⟩⟩⟩
      · have := walk_enum (K := F.K) (a := a) (xs := vs)
        rw [numbered_len, ← h2.length]
        exact this
      · obtain ⟨T, v, w, rfl, hT, rfl, e1, e2⟩ := y
        cases e1
        obtain ⟨f, e3, r2⟩ := h2.getV e2
        exact ⟨same_new hT, .tup [.int (i : Nat), f], numbered_get e3, pair_ok al hT (.int _) (r2.mono e)⟩
end
/-! ### more operations -/
def rIns : V → List V → Hp → VK → Prop := fun x vs H Q => ∃ (l : Addr) (xs : List V) (i : Int) (y : V), x = .ref l ∧ vs = [.int i, y] ∧ H l = some (.lst xs) ∧ xs.length < sizeLine ∧ 0 ≤ i ∧ i < 2 ^ 63 ∧
    Q .non (upd H l (.lst (xs.take i.toNat ++ [y] ++ xs.drop i.toNat)))
section
variable {F : Fm} {δ : List SD} {te tv : TE} {R : PD} {P : D → Prop}
theorem do_insert {i : Nat} {p : Addr} {ds : List D} (hi : δ[i]? = some (.own p (.lst ds))) (hl : ds.length < 100000) (h : Ev F te δ fun x => ∃ n : Int, x = .int n ∧ 0 ≤ n ∧ n < 2 ^ 63 ∧ Ev F tv δ fun y => R.nx (δ.set i (.own p (.lst (ds.take n.toNat ++ [y] ++ ds.drop n.toNat))))) :
    Do F (tDrop (tBM F.K "list" rIns (tVar i) (tCons te (tCons tv tNil)))) δ R := fun M σ H E c a b k d => by
  obtain ⟨y, h1, hy, m, ho, h3, r0⟩ := c.sl i _ hi
  subst hy
  cases r0 with
  | @lst ws _ r0 =>
  refine ⟨_, h1, .inl ⟨rfl, ws, SqL.of h3⟩, ?_⟩
  refine h M σ H _ c fun v x H1 p1 c1 e1 r1 => ?_
  obtain ⟨n, rfl, n0, n1, p1⟩ := p1
  cases r1
  refine p1 M σ H1 _ c1 fun w z H2 p2 c2 e2 r2 => ?_
  have h4 := (e1.trans e2) p _ (c.oh i p _ hi).2 h3
  have s := (hd_step c e1).trans (hd_step c1 e2)
  refine ⟨p, ws, n, w, rfl, rfl, h4, by rw [r0.length]; exact sz_lt hl, n0, n1, ?_⟩
  have r3 := r0.mono s
  refine a M σ _ _ p2 (c2.put hi (.lst (((r3.take n.toNat).append (RepL.one r2)).append (r3.drop n.toNat)))) ?_
  rw [hd_upd m]
  exact s
/-- a constant of a class -/
theorem ev_cval {C : Addr} {mc : Value} {f : Str} {n : Int} {u : Value} (cr : ClX.CRead F.K C mc) (cv : ClX.CVal F.K C mc f (.int n) u) (p : P (.int n)) (h : Ev F te δ fun d => d = .adr C) : Ev F (ClX.tCVal F.K te f) δ P := fun M σ H Q c q =>
  h M σ H _ c fun v x H1 p1 c1 e1 r1 => by
    subst p1
    cases r1
    exact ⟨C, mc, .int n, u, rfl, cr, cv, q _ _ H1 p c1 e1 (.int n)⟩
end
section
variable {K : PySem.W.Frag} {P : D → Prop}
theorem od_neD {x y : D} (px : plainD x = true) (py : plainD y = true) (sx : SeqAt.shaped (pyd x) = true) (sy : SeqAt.shaped (pyd y) = true) (p : P (.bl (!PyData.eqv (pyd x) (pyd y)))) : OpD K (rNeD K) x y P := fun M H v w Q al r1 r2 q =>
  ⟨_, _, rep_dp (r1.mono (same_hd M H)) px, rep_dp (r2.mono (same_hd M H)) py, sx, sy, q _ _ H p (Same.refl H) (.bl _)⟩
end
/-! f-strings -/
section
variable {F : Fm} {δ : List SD} {te : TE} {P : D → Prop} {PS : Str → Prop}
end
end Pf
namespace Pf
open PySem L2 RZ PySem.Spec PyProof.Rows
theorem peCval {X : Cx} {e : Expr} {f : Str} {pos : Pos} {ta : TE} (K : PySem.W.Frag) (he : PE X e ta) (hb : attributeBase e f X.env (eval e X.env) = eval e X.env := by rfl) (hK : X.K = K := by rfl) : PE X (.Attribute e f pos) (ClX.tCVal K ta f) := by
  subst hK; exact ClX.pe_cval he hb
end Pf

namespace Pf
open PySem L2 RZ PySem.Spec PyProof.Rows
/-! a def of one sequence that is only read -/
section
variable {K : PySem.W.Frag} {N : List Str} {vs : List V} {H : Hp} {Q : VK} {E : XK} {t : TS} {Pre : List D → Prop} {Post : List D → D → Prop}
end
section
variable {F : Fm} {δ : List SD} {P : D → Prop} {Pre : List D → Prop} {Post : List D → D → Prop} {E : XK}
end
theorem spN_len {K : PySem.W.Frag} {Pre : List D → Prop} {Post : List D → List D → Prop} {n : Nat} (h : ∀ ds, Pre ds → ds.length = n) : ∀ vs H Q E, spN K Pre Post vs H Q E → vs.length = n := fun vs H Q E ⟨M, ds, _, r, p, _⟩ => by rw [r.length, h ds p]
end Pf

namespace Pf
open PySem L2 RZ PySem.Spec PyProof.Rows
/-- texts -/
def txsD (zs : List Str) : List D := zs.map .str
theorem repL_strs {K : PySem.W.Frag} {H : Hp} : ∀ {vs : List V} {zs : List Str}, RepL K H vs (txsD zs) → vs = zs.map V.str
  | _, [], .nil => rfl
  | _, b :: bs, .cons (.str _) r => by rw [List.map_cons, repL_strs (zs := bs) r]
/-! ### an __init__ with a sequence in the middle, keyword-only parameters behind -/
section
variable {K : PySem.W.Frag} {N : List Str} {vs : List V} {H : Hp} {Q : VK} {E : XK} {t : TS} {C : Addr}
end
section
variable {F : Fm} {δ : List SD} {ta tk : TA} {te : TE} {P : D → Prop} {C : Addr} {E : XK} {Pre : List D → List D → List D → Prop} {Post : List D → List D → List D → List (Str × D) → Prop}
/-! a sequence in a slot that is a borrowed list or a tuple of data -/
end
section
variable {K : PySem.W.Frag} {P : D → Prop}
/-- a text among texts -/
theorem od_inStrs {x : Str} {zs : List Str} {neg t : Bool} (p : P (.bl (if neg then !decide (x ∈ zs) else decide (x ∈ zs)))) : OpD K (rIn K neg) (.str x) (if t then .tup (txsD zs) else .lst (txsD zs)) P := fun M H v w Q al r1 r2 q => by
  cases r1
  have fl : ∀ ns : List Str, ((ns.map V.str).all flatV) = true := fun ns => by
    rw [List.all_eq_true]
    intro x hx
    obtain ⟨n, _, rfl⟩ := List.mem_map.mp hx
    rfl
  have iv : ∀ ns : List Str, inV (.str x) (ns.map V.str) = decide (x ∈ ns) := fun ns => by
    induction ns with
    | nil => rfl
    | cons n ns ih =>
      have e : eqV (.str n) (.str x) = decide (x = n) := by
        show (n == x) = _
        by_cases h : x = n
        · subst h
          simp
        · rw [decide_eq_false h]
          exact beq_eq_false_iff_ne.mpr fun e => h e.symm
      show (eqV (.str n) (.str x) || inV (.str x) (ns.map V.str)) = _
      rw [e, ih]
      simp [List.mem_cons]
  cases t with
  | true =>
    simp only [if_true] at r2
    cases r2 with
    | tup h1 h2 =>
      have e := repL_strs h2
      subst e
      exact ⟨_, _, rfl, .inr (same_tup (same_hd M H) h1), rfl, fl zs, by rw [iv]; exact q _ _ H p (Same.refl H) (.bl _)⟩
  | false =>
    simp only [Bool.false_eq_true, if_false] at r2
    cases r2 with
    | lst h1 h2 =>
      have e := repL_strs h2
      subst e
      exact ⟨_, _, rfl, .inl (SqL.of (hd_of h1).2), rfl, fl zs, by rw [iv]; exact q _ _ H p (Same.refl H) (.bl _)⟩
end
end Pf

namespace Pf
open PySem L2 RZ PySem.Spec PyProof.Rows
/-! ### a def that returns a new list -/
def DoN (F : Fm) (ts : TS) (δ : List SD) (P : List D → Prop) : Prop := ∀ M σ H (E : Ends), Ctx F M σ H δ →
  (∀ p us es M' σ' H' δ', P es → Ctx F M' σ' H' δ' → H' p = some (.lst us) → F.H0 p = none → ¬ F.mv p → M' p = true → RepL F.K (hd M' H') us es → E.rt (.ref p) H') → ts E σ H
section
variable {F : Fm} {δ : List SD} {t u : TS} {te : TE} {tt : TT} {P : List D → Prop}
theorem dn_seq (h : Do F t δ { nx := fun δ' => DoN F u δ' P }) : DoN F (tSeq t u) δ P := fun M σ H E c q =>
  h M σ H { E with nx := u E } c (fun M' σ' H' δ' p c' s => p M' σ' H' E c' q) (fun _ _ _ _ _ _ p => p.elim) (fun _ _ _ _ p => p.elim) (fun _ _ _ _ p => p.elim)
theorem dn_ret (h : EvN F te δ P) : DoN F (tRet te) δ P := fun M σ H E c q =>
  h M σ H _ c fun p vs ds H' pd c' hp h0 hb no e hl r => q p vs ds (hid M p) σ H' δ pd c' hl h0 hb hid_same r
end
section
variable {K : PySem.W.Frag} {N : List Str} {vs : List V} {H : Hp} {Q : VK} {E : XK} {t : TS} {Pre : List D → Prop} {Post : List D → List D → Prop}
theorem enterNN (hs : spN K Pre Post vs H Q E) (hb : ∀ (M : Addr → Bool) (ds : List D), Pre ds → ds.length = vs.length → DoN ⟨K, none, M, H, E, 0, []⟩ t (slots N ds) (Post ds)) :
    t { nx := fun _ H' => Q .non H', rt := Q } (L2.start N vs) H := by
  obtain ⟨M, ds, al, r, pre, q⟩ := hs
  have hl := r.length
  have c : Ctx ⟨K, none, M, H, E, 0, []⟩ M (L2.start N vs) H (slots N ds) := by
    refine ⟨al, al, fun _ h => h, StepB.refl _ _, ⟨fun b z => (nomatch z), fun a h => (nomatch h)⟩, ?_, ?_, fun i j p es fs h1 h2 => absurd h1 no_own, fun i p es h => absurd h no_own⟩
    · unfold L2.start slots
      rw [List.length_append, List.length_append, List.length_map, List.length_map, List.length_replicate, List.length_replicate, hl]
    · unfold L2.start slots
      rw [hl]
      exact sl_base rfl _ r
  refine hb M ds pre hl.symm M _ H _ c fun p us es M' σ' H' δ' pd c' hp h0 hbn m r' => ?_
  refine q p us es H' pd h0 (fun a o h => c'.fr a o (mv_none rfl rfl a) h) hp (r'.mono (same_hd_le fun a h => ?_))
  by_cases ea : a = p
  · rw [ea]
    exact m
  · rw [hid_ne ea] at h
    exact c'.m0 a h
end
section
variable {F : Fm} {δ : List SD} {ta tk : TA} {te tb : TE} {P : List D → Prop} {E : XK} {Pre : List D → Prop} {Post : List D → List D → Prop}
theorem en_call (h : EvA F ta δ fun ds => Pre ds ∧ ∀ d, Post ds d → P d) : EvN F (tCall (spN F.K Pre Post) [] E ta) δ P := fun M σ H Q c q =>
  h M σ H _ c fun vs ds H1 p c1 e1 r => by
    rw [List.append_nil]
    refine ⟨M, ds, c1.al, r, p.1, fun a us es H2 pd hp s h2 r2 => ?_⟩
    have hp0 : H a = none := by
      cases z : H a with
      | none => rfl
      | some o =>
        have := e1 a o (c1.nob hp) z
        rw [hp] at this
        cases this
    exact q a us es H2 (p.2 es pd) (c1.take hp s h2) hp0 (c1.h0 hp) (c1.nob hp) (c1.nown hp) (e1.trans (StepB.of s)) h2 r2
theorem en_callK {gV : List V → List V → List V} {gD : List D → List D → List D} (hg : ∀ (H : Hp) (vs zs : List V) (ds es : List D), RepL F.K H vs ds → RepL F.K H zs es → RepL F.K H (gV vs zs) (gD ds es))
    (h : EvA F ta δ fun ds => EvA F tk δ fun es => Pre (gD ds es) ∧ ∀ d, Post (gD ds es) d → P d) : EvN F (tCallK (spN F.K Pre Post) gV E ta tk) δ P := fun M σ H Q c q =>
  h M σ H _ c fun vs ds H1 p c1 e1 r => p M σ H1 _ c1 fun zs es H2 p2 c2 e2 r2 => by
    refine ⟨M, gD ds es, c2.al, hg _ _ _ _ _ (r.mono (hd_step c1 e2)) r2, p2.1, fun a us fs H3 pd hp s h2 r3 => ?_⟩
    have hp0 : H a = none := by
      cases z : H a with
      | none => rfl
      | some o =>
        have := (e1.trans e2) a o (c2.nob hp) z
        rw [hp] at this
        cases this
    exact q a us fs H3 (p2.2 fs pd) (c2.take hp s h2) hp0 (c2.h0 hp) (c2.nob hp) (c2.nown hp) ((e1.trans e2).trans (StepB.of s)) h2 r3
end
/-! ### sum, min, max, the set of ints sorted, a deep in -/
theorem callSum (K : PySem.W.Frag) {X : Cx} (hc : X.calm = true := by rfl) (h : X.K = K := by rfl) : CallR X (.builtin "sum") (rSum K) := by subst h; exact cr_sum hc
theorem callMin (K : PySem.W.Frag) {X : Cx} (hc : X.calm = true := by rfl) (h : X.K = K := by rfl) : CallR X (.builtin "min") (rMin K) := by subst h; exact cr_min hc
theorem callMax (K : PySem.W.Frag) {X : Cx} (hc : X.calm = true := by rfl) (h : X.K = K := by rfl) : CallR X (.builtin "max") (rMax K) := by subst h; exact cr_max hc
def minI : List Int → Int
  | [] => 0
  | [x] => x
  | x :: y :: xs => min x (minI (y :: xs))
def maxI : List Int → Int
  | [] => 0
  | [x] => x
  | x :: y :: xs => max x (maxI (y :: xs))
theorem minI_le : ∀ {ns : List Int} {y : Int}, y ∈ ns → minI ns ≤ y
  | [x], y, h => by rw [List.mem_singleton.mp h]; exact Int.le_refl _
  | x :: z :: xs, y, h => by
    show min x (minI (z :: xs)) ≤ y
    rcases List.mem_cons.mp h with rfl | h
    · exact Int.min_le_left _ _
    · exact Int.le_trans (Int.min_le_right _ _) (minI_le h)
theorem minI_mem : ∀ {ns : List Int}, ns ≠ [] → minI ns ∈ ns
  | [], h => absurd rfl h
  | [x], _ => by simp [minI]
  | x :: z :: xs, _ => by
    have ih := minI_mem (ns := z :: xs) (by simp)
    show min x (minI (z :: xs)) ∈ _
    rcases Int.le_total x (minI (z :: xs)) with h | h
    · rw [Int.min_eq_left h]; simp
    · rw [Int.min_eq_right h]; exact List.mem_cons_of_mem _ ih
theorem le_maxI : ∀ {ns : List Int} {y : Int}, y ∈ ns → y ≤ maxI ns
  | [x], y, h => by rw [List.mem_singleton.mp h]; exact Int.le_refl _
  | x :: z :: xs, y, h => by
    show y ≤ max x (maxI (z :: xs))
    rcases List.mem_cons.mp h with rfl | h
    · exact Int.le_max_left _ _
    · exact Int.le_trans (le_maxI h) (Int.le_max_right _ _)
theorem maxI_mem : ∀ {ns : List Int}, ns ≠ [] → maxI ns ∈ ns
  | [], h => absurd rfl h
  | [x], _ => by simp [maxI]
  | x :: z :: xs, _ => by
    have ih := maxI_mem (ns := z :: xs) (by simp)
    show max x (maxI (z :: xs)) ∈ _
    rcases Int.le_total x (maxI (z :: xs)) with h | h
    · rw [Int.max_eq_right h]; exact List.mem_cons_of_mem _ ih
    · rw [Int.max_eq_left h]; simp
section
variable {K : PySem.W.Frag} {P : D → Prop} {ns : List Int}
theorem repL_ints {H : Hp} : ∀ {vs : List V} {ns : List Int}, RepL K H vs (ns.map .int) → vs = ns.map V.int
  | _, [], .nil => rfl
  | _, n :: ns, .cons (.int _) r => by rw [List.map_cons, repL_ints (ns := ns) r]
theorem cd_sum (p : P (.int ns.sum)) : CallD K (rSum K) [.lst (ns.map .int)] P := fun M H vs Q al r q => by
  cases r with
  | cons r1 r2 =>
    cases r2
    cases r1 with
    | lst h1 h2 =>
      have e := repL_ints h2
      subst e
      exact ⟨_, ns, rfl, SqL.of (hd_of h1).2, q _ _ H p (Same.refl H) (.int _)⟩
theorem cd_min (hn : ns ≠ []) (p : P (.int (minI ns))) : CallD K (rMin K) [.lst (ns.map .int)] P := fun M H vs Q al r q => by
  cases r with
  | cons r1 r2 =>
    cases r2
    cases r1 with
    | lst h1 h2 =>
      have e := repL_ints h2
      subst e
      refine ⟨_, ns, rfl, SqL.of (hd_of h1).2, List.length_pos_iff.mpr hn, fun m hm hle => ?_⟩
      have : m = minI ns := Int.le_antisymm (hle _ (minI_mem hn)) (minI_le hm)
      rw [this]
      exact q _ _ H p (Same.refl H) (.int _)
theorem cd_max (hn : ns ≠ []) (p : P (.int (maxI ns))) : CallD K (rMax K) [.lst (ns.map .int)] P := fun M H vs Q al r q => by
  cases r with
  | cons r1 r2 =>
    cases r2
    cases r1 with
    | lst h1 h2 =>
      have e := repL_ints h2
      subst e
      refine ⟨_, ns, rfl, SqL.of (hd_of h1).2, List.length_pos_iff.mpr hn, fun m hm hle => ?_⟩
      have : m = maxI ns := Int.le_antisymm (le_maxI hm) (hle _ (maxI_mem hn))
      rw [this]
      exact q _ _ H p (Same.refl H) (.int _)
end
section
variable {F : Fm} {δ : List SD} {te : TE} {PL : List D → Prop} {w : World}
end
/-! ### values known -/
section
variable {F : Fm} {δ : List SD} {ta tb te : TE} {tt tu : TT} {P : D → Prop} {x y z : D} {a b : Bool} {i j : Int}
theorem Ev.val {v : D} (h : Ev F te δ (· = v)) (p : P v) : Ev F te δ P := h.imp fun d e => by rw [e]; exact p
theorem EvT.val {PT : Bool → Prop} (h : EvT F tt δ (· = b)) (p : PT b) : EvT F tt δ PT := h.imp fun d e => by rw [e]; exact p
end
end Pf

/-! an error of an own class made as a value: with keywords too, over any built-in base -/
namespace PySem
namespace PfX
open PySem.W PySem.Calls PyProof.Rows PySem.HandSPX
section
variable {prog : Program} {w : World} {A : Around} {E : Value → Shared → Prop} {R : Result → Shared → Prop} {h : Heap} {g : Array GenState} {d : Drawn} {t : Nat} {os : OsState}
variable {nm q : Str} {C N : Addr} {bs bm tl : List Value} {hdct : Bool} {sn : List Str} {sub : List Value} {ab : Bool} {col : Option Bool} {dd : Option Addr} {k0 k1 k2 k3 k5 : Option Value} {B nI iI : String}
end
end PfX
end PySem

namespace PySem
namespace PfX
open PySem.W PySem.Calls PyProof.Rows PySem.HandSPX
/-! a built-in base of errors, as far as a store of a field asks of it -/
structure XT (B nI iI : String) (tl : List Value) : Prop where
  F : ExcBaseFacts B nI iI tl
  pass : ∀ self, refuseLoop self "__setattr__" tl = pure ()
  ob : tl.contains (.type "object") = true
/-- own classes, then the base's -/
def overT (tl : List Value) : List Value → Bool
  | [] => false
  | v :: r => match v with
    | .ref _ => overT tl r
    | u => (u :: r) == tl
section
open Builtin Builtin.ObjectAttr
variable {prog : Program} {w : World} {A : Around} {R : Result → Shared → Prop} {hp : Heap} {g : Array GenState} {d : Drawn} {t : Nat} {os : OsState}
end
end PfX
end PySem

namespace PySem
namespace PfX
open PySem.W PySem.Calls PyProof.Rows PySem.HandSPX
section
open Builtin Builtin.ObjectAttr
variable {M : Model} {A : Around} {E : Value → Shared → Prop} {Q : Fin → Shared → Prop} {hp : Heap} {g : Array GenState} {d : Drawn} {t : Nat} {os : OsState}
variable {nm q : Str} {C N x : Addr} {bs bm : List Value} {sn : List Str} {sub : List Value} {ab : Bool} {col : Option Bool} {dd : Option Addr} {k0 k1 k2 k3 k5 : Option Value} {nI : String} {name : Str} {tk : Tok} {v : Value} {fv : Array Value}
end
end PfX
end PySem
namespace Pf
open PySem L2 PySem.Spec PyProof.Rows
/-- what the written part says of a class of errors -/
structure XCls (K : PySem.W.Frag) (C : Addr) : Prop where
  cls : ∃ nm q N bs bm sn sub ab col dd k0 k1 k2 k3 k5 B nI iI tl, PySem.PfX.XT B nI iI tl ∧ PySem.PfX.overT tl bm = true ∧ K.lookup C = some (excClassObj nm q C N bs bm true sn sub ab col dd k0 k1 k2 k3 k5 nI)
  sa : PySem.W.findIn K (.ref C) "__setattr__" = some (some (.builtin "object.__setattr__"))
  kC : PySem.W.keepIn K (.ref C) = true
  is : ExcC K C
section
variable {X : Cx} {pins : List (Addr × Obj)} {σ : L2.St} {H : Hp} {s : Shared} {a C dx : Addr} {f : Str} {y : V} {u : Value} {fs : List (Str × V)} {Q : Unit → Shared → Prop} {E : Value → Shared → Prop} {A : Around}
end
section
variable {X : Cx} {o e : Expr} {es : List Expr} {to te : TE} {ta : TA} {f : Str} {p p' pos : Pos}
end
end Pf

namespace Pf
open PySem L2 PySem.Spec PyProof.Rows
section
variable {X : Cx} {CX : CXT} {k n : Nat} {f C : Addr} {fd : FuncData} {ps ks : List Str} {sp : Sp} {E : XK} {x : Str} {p pos : Pos} {e : Expr} {es : List Expr} {kws : List Keyword} {t tk : TA} {g : List Value → List Value → List Value} {gV : List V → List V → List V}
end
/-! ### reading a field, asking for the class -/
end Pf

namespace Pf
open PySem L2
/-! ### a class of errors, asked by the kernel -/
structure XAll (K : PySem.W.Frag) (C fI : Addr) (fs : List Str) : Prop where
  x : XCls K C
  tI : PySem.W.typeIn K (.ref fI) = some (.type "function")
  iC : PySem.W.findIn K (.ref C) "__init__" = some (some (.ref fI))
  no : ∀ f ∈ fs, PySem.W.findIn K (.ref C) f = some none
/-! the classes beneath one another -/
structure KindsAt (K : PySem.W.Frag) (pe mi nl c : Addr) (i : Nat) : Prop where
  k1 : PySem.W.kitOne K (.ref c) (.type "ValueError") = some (decide (i < 22))
  k2 : PySem.W.kitOne K (.ref c) (.ref pe) = some (decide (i < 22))
  k3 : PySem.W.kitOne K (.ref c) (.type "LookupError") = some (decide (21 < i))
  k4 : PySem.W.kitOne K (.ref c) (.ref mi) = some (decide (21 < i) && decide (i < 24))
  k5 : PySem.W.kitOne K (.ref c) (.type "IndexError") = some (i == 24)
  k6 : PySem.W.kitOne K (.ref c) (.ref nl) = some (i == 24)
  k7 : PySem.W.kitOne K (.ref c) (.type "KeyError") = some false
/-! ### errors on data -/
section
variable {F : Fm} {δ : List SD} {te : TE} {t tk : TA} {P : D → Prop} {f : Str} {C : Addr} {fs : List (Str × D)} {y : D}
end
/-! ### bodies: self.code = text, self.f = copied(value) -/
section
variable {K : PySem.W.Frag} {C : Addr} {N : List Str} {vs : List V} {H : Hp} {Q : VK} {E E' : XK} {cd f : Str} {PreC : List D → Prop}
end
end Pf

namespace Pf
open PySem L2 PySem.Spec PyProof.Rows
/-! ### an error made to be raised: over any built-in base, with keywords too -/
theorem XCls.ty {K : PySem.W.Frag} {C : Addr} (T : XCls K C) : PySem.W.typeIn K (.ref C) = some (.type "type") := by
  obtain ⟨nm, q, N, bs, bm, sn, sub, ab, col, dd, k0, k1, k2, k3, k5, B, nI, iI, tl, xt, ot, hC⟩ := T.cls
  show Option.map (fun x => x.cls) (List.lookup C K) = some (.type "type")
  rw [hC]
  rfl
section
variable {X : Cx} {CX : CXT} {k n : Nat} {f C : Addr} {fd : FuncData} {ps ks : List Str} {sp : Sp} {E : XK} {x : Str} {p pos : Pos} {e : Expr} {es : List Expr} {kws : List Keyword} {t tk : TA} {g : List Value → List Value → List Value} {gV : List V → List V → List V}
end
end Pf

namespace Pf
open PySem L2
/-! ### the promise of an __init__ of errors, so that its error can be kept as a value or raised -/
section
variable {K : PySem.W.Frag} {C : Addr} {N : List Str} {vs : List V} {H : Hp} {Q : VK} {E E' : XK} {cd f : Str} {Pre : List D → Prop} {Post : List D → List (Str × D) → Prop}
end
/-! ### raise on data -/
section
variable {F : Fm} {δ : List SD} {t tk : TA} {C : Addr} {R : PD} {PX : Addr → List (Str × D) → Prop}
end
end Pf

namespace Pf
open PySem L2
/-! ### defs that may raise -/
section
variable {K : PySem.W.Frag} {vs : List V} {H : Hp} {Q : VK} {E : XK} {N : List Str} {t : TS} {Pre : List D → Prop} {Post : List D → D → Prop} {PX : List D → Addr → List (Str × D) → Prop}
end
section
variable {F : Fm} {δ : List SD} {ta : TA} {P : D → Prop} {Pre : List D → Prop} {Post : List D → D → Prop} {PX : List D → Addr → List (Str × D) → Prop} {QX : Addr → List (Str × D) → Prop}
end
end Pf

/-! try .. except (A, B, C) as e: the clause's tuple is made in the heap, untracked -/
namespace PfT
open PySem PySem.Spec PyProof.Rows L2 L2H HandSPX
section
variable {X : Cx} {n : Str} {ty : Expr} {cs : List Value} {i : Nat} {body suite : List Stmt} {b₀ : Stmt} {pos pos' : Pos} {tb : WX → TS} {ts : Addr → Value → Option Addr → TS} {Wout : WX}
end
end PfT

namespace PfT
open PySem PySem.Spec PyProof.Rows L2 L2H HandSPX
section
variable {X : Cx} {x1 x2 x3 : Str} {c1 c2 c3 : Value} {p1 p2 p3 pos : Pos} {k0 : Nat}
end
end PfT

/-! a def that is handed the error that is in hand: its promise speaks of this error -/
namespace PfT
open PySem PySem.Spec PyProof.Rows L2 L2H HandSPX
structure FnE (P : Program) (w : World) (K : PySem.W.Frag) (mg : Str → Option Value) (base : Heap) (CX : CXT) (k : Nat) (f : Addr) (fd : FuncData) (ps : List Str) (p : Addr × Obj) (sp : Sp) : Prop where
  len : ∀ vs H Q E, sp vs H Q E → vs.length = ps.length
  run : ∀ (A : Around) (outer : List Env) (s : Shared) (H : Hp) (args : Args) (us : List Value) (vs : List V) (Q : VK) (E : XK), RoomH k A → PinOk outer H s p → Env0 P w K mg base A outer s H → BindsTo s fd args (ps.zip us) → Vals vs us → sp vs H Q E →
    codeAny (model P w) A (.call (.ref f) args) (CR CX outer P w H s Q E) s
section
variable {P : Program} {w : World} {K : PySem.W.Frag} {mg : Str → Option Value} {base : Heap} {CX : CXT} {k : Nat} {f : Addr} {x qual : Str} {st : Stmt} {fd : FuncData} {N ps : List Str} {sp : Sp} {p : Addr × Obj}
end
section
variable {X : Cx} {CX : CXT} {k : Nat} {f C d a : Addr} {fd : FuncData} {ps : List Str} {sp : Sp} {E : XK} {x : Str} {q pos : Pos} {e : Expr} {es : List Expr} {t : TA} {te : TE} {oe : Obj} {n : Str}
end
end PfT

/-! cells told as things that are read (frozen), and told no more -/
namespace PfL
open PySem PySem.Spec PyProof.Rows L2 LamX HandSPX
def FzO (o : Obj) : HO := .frz o (.ext fun _ => True)
abbrev Zm := Addr → Option Obj
section
variable {P : Program} {w : World} {H H' : Hp} {h h' B : Heap} {Z : Zm} {fs : List Addr}
/-- Z's things are frozen -/
def In (Z : Zm) (H : Hp) : Prop := ∀ b o, Z b = some o → H b = some (FzO o)
end
/-! ### calls from a frozen heap, to a frozen heap -/
section
variable {P : Program} {w : World} {K : PySem.W.Frag} {mg : Str → Option Value} {base : Heap} {A : Around} {outer : List Env} {s s' : Shared} {H : Hp} {Z : Zm} {Q : VK} {E : XK}
end
end PfL

/-! lambdas as values: made without parameters, or with one that has a written number -/
namespace PfL
open PySem PySem.Spec PyProof.Rows L2 LamX HandSPX
structure LF where
  qual : Str
  params : Arguments
  body : Expr
  scope : Scope
  cl : List (Str × Addr)
  c : Addr
  dV : Value
abbrev LF.fd (F : LF) (doc pm ctv : Value) : FuncData := PySem.W.kdv_fn "<lambda>" F.qual F.params (.expr F.body) F.scope F.cl F.dV doc pm (.ref F.c) ctv
abbrev LF.obj (F : LF) (doc pm ctv : Value) : Obj := { cls := .type "function", data := .func (F.fd doc pm ctv) }
def LamO (f : Addr) (F : LF) : HO := .ext fun h => ∃ doc pm ctv : Value, h.get? f = some (F.obj doc pm ctv)
/-- no default, or one that is told -/
def DvOk (dV : Value) (H : Hp) : Prop := dV = .none ∨ ∃ (t : Addr) (v : V), dV = .ref t ∧ H t = some (.tup [v])
/-- all that a lambda's function needs stands in H -/
structure Rdy (f : Addr) (F : LF) (H : Hp) : Prop where
  fn : H f = some (LamO f F)
  cd : H F.c = some (CodeO F.c F.qual)
  dv : DvOk F.dV H
theorem DvOk.same {dV : Value} {H H' : Hp} (d : DvOk dV H) (e : ExtN H H') : DvOk dV H' := by
  rcases d with d | ⟨t, v, d, h⟩
  · exact .inl d
  · exact .inr ⟨t, v, d, e _ _ h fun ps z => by cases z⟩
section
variable {X : Cx} {pins : List (Addr × Obj)} {σ : L2.St} {H : Hp} {s : Shared} {E : Value → Shared → Prop} {Q : Value → Shared → Prop}
/-- all but the table at P stays -/
def ExtP (P : Addr) (H H' : Hp) : Prop := ∀ b o, b ≠ P → H b = some o → H' b = some o
theorem ExtP.trans {P : Addr} {H H1 H2 : Hp} (a : ExtP P H H1) (b : ExtP P H1 H2) : ExtP P H H2 := fun c o n h => b c o n (a c o n h)
end
end PfL

/-! a lambda called, from wherever: its cells lie frozen -/
namespace PfL
open PySem PySem.Spec PyProof.Rows L2 LamX HandSPX
def par0 : Arguments := { posonlyargs := [], args := [], vararg := none, kwonlyargs := [], kw_defaults := [], kwarg := none, defaults := [] }
def par1 (a : Str) (p po : Pos) (n : Int) (j : Nat) : Arguments := { posonlyargs := [], args := [{ arg := a, annotation := none, pos := p }], vararg := none, kwonlyargs := [], kw_defaults := [], kwarg := none, defaults := [.Constant (.int n) j po] }
/-- a lambda's words: what they are made of -/
inductive Par : Arguments → List Str → Prop
  | zero : Par par0 []
  | one (a : Str) (p po : Pos) (n : Int) (j : Nat) : Par (par1 a p po n j) [a]
/-- its names: its own parameter, captured ones, globals -/
structure LSc (N : List Str) (as : List Str) (sc : Scope) : Prop where
  kind : sc.kind = .function
  co : sc.isCoroutine = false
  gen : sc.isGenerator = false
  cell : ∀ y ∈ sc.names, y.2 ≠ .cell
  own : ∀ y ∈ sc.names, y.2 = .local → y.1 ∉ N
  par : ∀ a ∈ as, sc.names.lookup a = some .local
/-- the frozen cells bear what the maker's names bear -/
structure CFz (N : List Str) (σ : L2.St) (cl : List (Str × Addr)) (Z : Zm) : Prop where
  at_ : ∀ y c, cl.lookup y = some c → ∃ (o : Obj) (u : Option Value), Z c = some o ∧ o.data = .cell u ∧ ∀ (i : Nat) (v : V), N[i]? = some y → σ[i]? = some (some v) → ∃ u', u = some u' ∧ RelV v u'
  inj : ∀ x y c, cl.lookup x = some c → cl.lookup y = some c → x = y
section
variable {P : Program} {w : World} {K : PySem.W.Frag} {mg : Str → Option Value} {base : Heap} {N as : List Str} {A : Around} {outer : List Env} {s : Shared} {H : Hp} {E : XK} {F : LF} {f : Addr} {σ : L2.St} {Z : Zm} {k : Nat} {Q : VK}
/-- x(): what the function at f comes to, whoever calls it -/
def tAct (P : Program) (w : World) (K : PySem.W.Frag) (mg : Str → Option Value) (base : Heap) (k : Nat) (f : Addr) (H : Hp) (Q : VK) (E : XK) : Prop :=
  ∀ (A : Around) (outer : List Env) (s : Shared), Room k A → Env0 P w K mg base A outer s H → codeAny (model P w) A (.call (.ref f) ⟨[], []⟩) (CR (L2.CX P w) outer P w H s Q E) s
end
end PfL

namespace Pf
open PySem L2 RZ
/-! ### xs.extend(ys) of an own list -/
/-! ### x not in a tuple of ints; enumerate of a tuple -/
theorem it_enumT {F : Fm} {δ : List SD} {te : TE} {PX : List D → Prop} (h : Ev F te δ fun d => ∃ ds, d = .tup ds ∧ PX (numbered ds)) : ItD F (iEnumA F.K (tCons te tNil)) δ PX := fun M σ H R c q =>
  h M σ H _ c fun v d H1 p c1 e r => by
    obtain ⟨ds, rfl, p⟩ := p
    cases r with
    | @tup a vs _ h1 h2 =>
      have hT : SqT F.K H1 a vs := same_tup (same_hd M H1) h1
      refine ⟨_, _, rfl, .inr ⟨hT, q _ _ H1 p c1 e ⟨fun H => SqT F.K H a vs, YPair (fun i => some (.int (i : Nat))) (fun i => vs[i]?), ?_, fun M2 H2 e _ => same_tup (same_hd M2 H2) (same_tup e h1), fun M2 H2 i x H3 al e y => ?_⟩⟩⟩
      · have := walk_enumT (K := F.K) (a := a) (xs := vs)
        rw [numbered_len, ← h2.length]
        exact this
      · obtain ⟨T, v, w, rfl, hT, rfl, e1, e2⟩ := y
        cases e1
        obtain ⟨f, e3, r2⟩ := h2.getV e2
        exact ⟨same_new hT, .tup [.int (i : Nat), f], numbered_get e3, pair_ok al hT (.int _) (r2.mono e)⟩
end Pf

/-! rules of lambdas: made, asked, handed on while the cells lie frozen -/
namespace PfL
open PySem PySem.Spec PyProof.Rows L2 LamX HandSPX
/-- what the making of a lambda comes to -/
structure MkL (P : Addr) (q : Str) (params : Arguments) (body : Expr) (scope : Scope) (cells : List (Str × Addr)) (H : Hp) (f : Addr) (F : LF) (H1 : Hp) : Prop where
  ext : ExtP P H H1
  tab : TabS H1 P q
  non : ∀ b, H1 b = none → H b = none
  new : H f = none
  rdy : Rdy f F H1
  eq : F = ⟨q, params, body, scope, cloFrom cells scope.names [], F.c, F.dV⟩
  d0 : params.defaults = [] → F.dV = .none
  d1 : params.defaults ≠ [] → ∃ t v, F.dV = .ref t ∧ H t = none ∧ H1 t = some (.tup [v])
section
variable {X : Cx}
/-! ### a call while this frame's cells lie frozen -/
open Classical in
end
end PfL

/-! lambdas on data: what a lambda comes to, told of the captured data -/
namespace Pf
open PySem L2 PfL LamX
section
variable {K : PySem.W.Frag} {H H' : Hp}
end
/-! ### the captured slots -/
/-- what the function at f comes to, told of what it captured -/
def ActD (P : Program) (w : World) (K : PySem.W.Frag) (mg : Str → Option Value) (base : Heap) (k : Nat) (f : Addr) (ws : List V) (cs : List D) (H : Hp) (Pn : D → Prop) (PX : Addr → List (Str × D) → Prop) : Prop :=
  ∀ (M' : Addr → Bool) (H' : Hp) (Q : VK) (E : XK), Same H H' → Al M' H' → RepL K (hd M' H') ws cs → (∀ v d H'', Pn d → Same H' H'' → Rep K (hd M' H'') v d → Q v H'') →
    (∀ C gs dx fvs H'', PX C gs → Same H' H'' → H' dx = none → H'' dx = some (.xd fvs) → RepF K (hd M' H'') fvs gs → E (.ref C) (some dx) H'') → (∃ F, Rdy f F H') ∧ tAct P w K mg base k f H' Q E
section
variable {P : Program} {w : World} {K : PySem.W.Frag} {mg : Str → Option Value} {base : Heap} {k : Nat} {N as : List Str} {Fm' : Fm} {M : Addr → Bool} {σ : L2.St} {H : Hp} {δ : List SD} {f : Addr} {F : LF} {hs : List (Addr × HO)} {Z : Zm} {Pn : D → Prop} {PX : Addr → List (Str × D) → Prop} {js : List Nat} {tb : XK → TE}
end
end Pf

namespace Pf
open PySem L2 PfL LamX PfT HandSPX
/-! ### a lambda is made -/
/-! ### errors as the laws tell them -/
/-- the field that a law reads of an error of this code -/
def fieldOf (n : Str) : Option Str := if n ∈ (["InvalidRow", "InvalidState", "InvalidGroup", "InvalidCommand"] : List Str) then some "at" else if n ∈ (["DuplicateNumber", "UnknownNumber"] : List Str) then some "number" else if n ∈ (["DuplicateName", "UnknownName"] : List Str) then some "name" else
  if n ∈ (["PartsDiffer", "Ended", "NothingLeft"] : List Str) then none else if n ∈ (["InvalidText", "TooMany"] : List Str) then some (if n = "InvalidText" then ("line" : Str) else ("most" : Str)) else if n ∈ (["WrongReader", "Full"] : List Str) then some (if n = "WrongReader" then ("first" : Str) else ("limit" : Str)) else some "given"
def errNames : List Str := ["code", "at", "number", "name", "line", "most", "first", "limit", "given"]
/-- the error's class may be asked for these, its code is n, the field that is read of it is x -/
structure ErrIs (K : PySem.W.Frag) (ct : List Value) (C : Addr) (gs : List (Str × D)) (n : Str) (x : D) : Prop where
  ex : PySem.W.exmAny K (.ref C) ct = some true
  cl : ExcC K C
  na : ∀ f ∈ errNames, PySem.W.findIn K (.ref C) f = some none
  cd : List.lookup ("code" : Str) gs = some (D.str n)
  fd : match fieldOf n with
    | none => x = .non
    | some f => List.lookup (f : Str) gs = some x
def ErrOut (K : PySem.W.Frag) (ct : List Value) (C : Addr) (gs : List (Str × D)) (Po : D → Prop) : Prop := ∃ n x, ErrIs K ct C gs n x ∧ Po (.tup [.str n, x])
/-! ### what _law_try and _law_tries promise -/
section
variable (P : Program) (w : World) (K : PySem.W.Frag) (mg : Str → Option Value) (base : Heap) (k : Nat) (ct : List Value)
/-- a lambda's item: what it comes to is Po -/
structure ItOk (f : Addr) (ws : List V) (cs : List D) (H : Hp) (Po : D → Prop) : Prop where
  ex : ∃ Pn PX, ActD P w K mg base k f ws cs H Pn PX ∧ (∀ d, Pn d → Po (.tup [.str "", d])) ∧ ∀ C gs, PX C gs → ErrOut K ct C gs Po
abbrev It := Addr × List V × List D × (D → Prop)
inductive OutL : List It → List D → Prop
  | nil : OutL [] []
  | cons {it : It} {is : List It} {d : D} {ds : List D} : it.2.2.2 d → OutL is ds → OutL (it :: is) (d :: ds)
end
theorem OutL.snoc {it : It} {d : D} (h : it.2.2.2 d) : ∀ {is : List It} {ds : List D}, OutL is ds → OutL (is ++ [it]) (ds ++ [d])
  | _, _, .nil => .cons h .nil
  | _, _, .cons g r => .cons g (r.snoc h)
theorem OutL.len : ∀ {is : List It} {ds : List D}, OutL is ds → ds.length = is.length
  | _, _, .nil => rfl
  | _, _, .cons _ r => by rw [List.length_cons, List.length_cons, r.len]
section
variable {P : Program} {w : World} {K : PySem.W.Frag} {mg : Str → Option Value} {base : Heap} {k : Nat} {ct : List Value}
theorem ActD.later {f : Addr} {ws : List V} {cs : List D} {H H1 : Hp} {Pn : D → Prop} {PX : Addr → List (Str × D) → Prop} (a : ActD P w K mg base k f ws cs H Pn PX) (s : Same H H1) : ActD P w K mg base k f ws cs H1 Pn PX := fun M' H' Q E s1 al r qn qx => a M' H' Q E (s.trans s1) al r qn qx
theorem ItOk.later {f : Addr} {ws : List V} {cs : List D} {H H1 : Hp} {Po : D → Prop} (a : ItOk P w K mg base k ct f ws cs H Po) (s : Same H H1) : ItOk P w K mg base k ct f ws cs H1 Po := by
  obtain ⟨Pn, PX, h, h2⟩ := a.ex
  exact ⟨Pn, PX, h.later s, h2⟩
end
end Pf

namespace Pf
open PySem L2 PfL LamX PfT HandSPX
section
variable {P : Program} {w : World} {K : PySem.W.Frag} {mg : Str → Option Value} {base : Heap} {k : Nat} {ct : List Value} {N : List Str} {cells : List (Str × Addr)} {δ : List SD}
inductive OutF : List (D → Prop) → List D → Prop
  | nil : OutF [] []
  | cons {p : D → Prop} {ps : List (D → Prop)} {d : D} {ds : List D} : p d → OutF ps ds → OutF (p :: ps) (d :: ds)
end
/-! ### the field of an error -/
end Pf

namespace Pf
open PySem L2 PfL LamX PfT HandSPX
/-! ### the law's frame, with its table -/
end Pf

namespace Pf
open PySem L2 PfL LamX PfT HandSPX
/-! ### an __init__ that may raise; its last argument is a sequence -/
section
variable {K : PySem.W.Frag} {N : List Str} {vs : List V} {H : Hp} {Q : VK} {E : XK} {t : TS} {C : Addr} {Pre : List D → List D → Prop} {Post : List D → List D → List (Str × D) → Prop} {PX : List D → List D → Addr → List (Str × D) → Prop}
end
end Pf

namespace Pf
open PySem L2 PfL LamX PfT HandSPX PyProof.Rows
/-! ### passing errors on; the law's frame and its cells -/
/-- a def whose code object is known -/
structure FunC (K : PySem.W.Frag) (x qual : Str) (st : Stmt) (f c : Addr) (fd : FuncData) : Prop where
  ex : ∃ (oc : Value) (od : Option Addr) (kV doc pm : Value) (an : Option Addr) (ct : Value) (osl : Array (Option Value)),
    fd = PySem.W.fnOf x qual (defArgs st) (defBody st) (defScope st) .none kV doc pm an (.ref c) ct ∧ K.lookup f = some ⟨oc, od, .func fd, osl⟩ ∧ PySem.W.codeIn K (.ref c) qual = true
theorem FunC.ok {P : Program} {w : World} {K : PySem.W.Frag} {mg : Str → Option Value} {base : Heap} {x qual : Str} {st : Stmt} {f c : Addr} {fd : FuncData} {N ps : List Str} {k : Nat} {sp : Sp} (F : FunC K x qual st f c fd) (S : FnScope N ps (defScope st)) (len : ∀ vs H Q E, sp vs H Q E → vs.length = ps.length)
    (hbody : ∀ (A : Around) (outer : List Env) (s : Shared) (H : Hp) (vs : List V) (Q : VK) (E : XK), Room k (A.deeper (envOfC qual (defScope st) s.heap.objs.size f (.ref c))) → sp vs H Q E →
      ∃ t, PSs (cxOf CX0 P w K mg base N qual (defScope st) f (.ref c) A outer s H E).nox (defBody st) t ∧ t { nx := fun _ H' => Q .non H', rt := Q } (L2.start N vs) H) : FnOk P w K mg base CX0 (k + 1) f fd ps sp := by
  obtain ⟨oc, od, kV, doc, pm, an, ct, osl, rfl, lk, hcd⟩ := F.ex
  refine fn_of lk hcd S len fun A outer s H vs Q E hr hsp => ?_
  obtain ⟨t, h, q⟩ := hbody A outer s H vs Q E hr hsp
  exact ⟨t, h.nox, q⟩
end Pf

namespace Pf
open PySem L2 PfL LamX PfT HandSPX PyProof.Rows
/-! ### a def of one sequence that may raise -/
section
variable {K : PySem.W.Frag} {N : List Str} {vs : List V} {H : Hp} {Q : VK} {E : XK} {t : TS} {Pre : List D → Prop} {Post : List D → D → Prop} {PX : List D → Addr → List (Str × D) → Prop}
end
section
variable {F : Fm} {δ : List SD} {P : D → Prop} {Pre : List D → Prop} {Post : List D → D → Prop} {PX : List D → Addr → List (Str × D) → Prop} {QX : Addr → List (Str × D) → Prop}
end
end Pf

/-! CoreZ3: a tuple told backwards, t[::-1]. -/
namespace Bk
open PySem PyProof.Rows
section
variable {prog : Program} {w : World} {A : Around} {E : Value → Shared → Prop} {s : Shared}
theorem applied {sl : Addr} {vc : Value} {n : Nat} {Q : Int × Int × Nat → Shared → Prop} (hs : s.heap.IsSliceOf sl .none .none vc) (pc : IsPart vc (some (-1))) (q : Q ((n : Int) - 1, -1, n) s) : wpAny (model prog w) A (Builtin.Slice.sliceApplied (.ref sl) (pure (n : Int))) Q E s := by
  obtain ⟨o, ho, _, hd⟩ := id hs
  unfold Builtin.Slice.sliceApplied Builtin.Slice.sliceFields
  refine wpAny_bind (wpAny_bind (wpAny_field ho hd (x := .none) rfl (wpAny_bind (wpAny_field ho hd (x := .none) rfl (wpAny_bind (wpAny_field ho hd (x := vc) rfl (wpAny_pure ?_)))))))
  refine wpAny_bind (HT.slicePart_ pc ?_)
  show wpAny _ _ (if ((-1 : Int) == 0) = true then _ else _) _ _ s
  rw [if_neg (by decide)]
  refine wpAny_bind (HT.slicePart_ .none (wpAny_bind (HT.slicePart_ .none (wpAny_bind (wpAny_pure ?_)))))
  have e : Builtin.Slice.slicePlaces ((n : Int) - 1) (-1) (-1) = n := by
    unfold Builtin.Slice.slicePlaces
    rw [if_neg (by decide)]
    by_cases h : ((n : Int) - 1 > -1)
    · rw [if_pos h]
      show ((((n : Int) - 1 - -1 - 1) / (- -1)) + 1).toNat = n
      rw [show (- -1 : Int) = 1 by decide, Int.ediv_one]
      omega
    · rw [if_neg h]
      have : n = 0 := by omega
      subst this
      rfl
  show wpAny _ _ (pure ((n : Int) - 1, (-1 : Int), Builtin.Slice.slicePlaces ((n : Int) - 1) (-1) (-1))) _ _ s
  rw [e]
  exact wpAny_pure q
theorem fm_same {α β : Type} {f g : α → Option β} : ∀ {l : List α}, (∀ k ∈ l, f k = g k) → l.filterMap f = l.filterMap g
  | [], _ => rfl
  | k :: l, h => by
    rw [List.filterMap_cons, List.filterMap_cons, h k (by simp), fm_same fun j hj => h j (List.mem_cons_of_mem _ hj)]
theorem picked (xs : Array Value) : ((List.range xs.size).filterMap fun (k : Nat) => xs[(((xs.size : Int) - 1) + (k : Int) * (-1)).toNat]?).toArray = xs.toList.reverse.toArray := by
  have e : (List.range xs.size).filterMap (fun (k : Nat) => xs[(((xs.size : Int) - 1) + (k : Int) * (-1)).toNat]?) = ((List.range xs.size).map fun k => xs.size - 1 - k).filterMap (xs[·]?) := by
    rw [List.filterMap_map]
    refine fm_same fun k hk => ?_
    have := List.mem_range.mp hk
    have e : (((xs.size : Int) - 1) + (k : Int) * (-1)).toNat = xs.size - 1 - k := by omega
    show xs[(((xs.size : Int) - 1) + (k : Int) * (-1)).toNat]? = xs[xs.size - 1 - k]?
    rw [e]
  rw [e, PySem.W.krv_range, List.filterMap_reverse, PySem.W.krv_all]
theorem item {t sl : Addr} {its : List Value} {vc : Value} {Q : Value → Shared → Prop} (ht : IsTup s.heap t its.toArray) (hs : s.heap.IsSliceOf sl .none .none vc) (pc : IsPart vc (some (-1))) (hz : its.toArray.size ≤ sizeLine)
    (q : Q (.ref s.heap.objs.size) { s with heap := s.heap.push { cls := .type "tuple", data := .seq its.reverse.toArray } }) : wpAny (model prog w) A (getItem (.ref t) (.ref sl)) Q E s := by
  have fits : sizeOk (.seq its.reverse.toArray) := by
    show its.reverse.toArray.size ≤ sizeLine
    rw [List.size_toArray] at hz ⊢
    rw [List.length_reverse]
    exact hz
  obtain ⟨o, ho, hc, _⟩ := id hs
  have hT : s.TypeIs (.ref sl) "slice" := ⟨o, ho, hc⟩
  unfold getItem
  try with_reducible refine wpAny_holding ?_
  first | refine wpAny_bind (wpAny_pure ?_) | skip
  refine wpAny_bind (wpAny_sequenceKey ht.typeIs (by decide) ?_)
  refine wpAny_bind (wpAny_callSpecial?_slot (name := Str.ofString "__getitem__") ht.typeIs PyProof.Rows.slot_tuple_getitem (wpAny_call_entry PyProof.Rows.slot_tuple_getitem ht.typeIs entry_tuple_getitem ?_ (args_tuple_getitem _ _)))
  show wpAny _ _ (Builtin.Tuple.tupleItemsOf (.ref t) >>= _) _ _ s
  refine wpAny_bind (PyProof.Rows.tupleItemsOf_ ht ?_)
  refine wpAny_bind (wpAny_typeOf hT ?_)
  rw [if_pos (by decide)]
  refine wpAny_bind (applied hs pc ?_)
  have no : ¬ ((((its.toArray.size : Int) - 1 == 0) && ((-1 : Int) == 1) && (its.toArray.size == its.toArray.size)) = true) := by
    intro z
    rw [Bool.and_eq_true, Bool.and_eq_true] at z
    exact absurd z.1.2 (by decide)
  show wpAny _ _ (if ((((its.toArray.size : Int) - 1 == 0) && ((-1 : Int) == 1) && (its.toArray.size == its.toArray.size)) = true) then _ else _) _ _ s
  rw [if_neg no, picked]
  first
    | exact wpAny_bind (m := Builtin.Tuple.tupleExact _) (wpAny_newObj_type (wpAny_pure ⟨_, rfl, wpAny_pure q⟩) fits)
    | exact wpAny_bind (m := Builtin.Tuple.tupleExact _) (wpAny_newObj_type (wpAny_bind (wpAny_pure (wpAny_pure ⟨_, rfl, wpAny_pure q⟩))) fits)
    | exact wpAny_bind (wpAny_bind (m := Builtin.Tuple.tupleExact _) (wpAny_newObj_type (wpAny_pure (wpAny_pure ⟨_, rfl, wpAny_pure q⟩)) fits))
    | exact wpAny_bind (wpAny_bind (m := Builtin.Tuple.tupleExact _) (wpAny_newObj_type (wpAny_pure ⟨_, rfl, wpAny_pure q⟩) fits))
end
end Bk
namespace L2
open PySem PySem.Spec PyProof.Rows
end L2
namespace Pf
open PySem L2 RZ
end Pf

namespace Pf
open PySem L2 PfL LamX PfT HandSPX PyProof.Rows
/-! ### a lambda known whole; the law's frame behind its bag -/
section
variable {P : Program} {w : World} {K : PySem.W.Frag} {mg : Str → Option Value} {base : Heap} {k : Nat} {ct : List Value} {N as : List Str} {cells : List (Str × Addr)} {δ : List SD} {f : Addr} {hs : List (Addr × HO)} {Po : D → Prop} {F' : LF} {q : Str} {params : Arguments} {body : Expr} {scope : Scope}
end
end Pf
namespace Pf
open PySem L2
end Pf

/-! CoreZ5: x in own, x not in own; methods that may raise. -/
namespace Pf
open PySem L2 PfL LamX PfT HandSPX PyProof.Rows
section
variable {prog : Program} {w : World} {A : Around} {E : Value → Shared → Prop} {s : Shared} {K : PySem.W.Frag} {x C f : Addr} {ox : Obj} {od : Option Obj} {b : Value}
end
section
variable {X : Cx} {CX : CXT} {n : Nat} {C g : Addr} {sp : Sp} {E : XK}
end
section
variable {K : PySem.W.Frag} {C : Addr} {E : XK} {Pre : List D → Prop} {Post : List D → D → Prop} {P : D → Prop} {fs : List (Str × D)} {y : D} {neg : Bool}
end
section
variable {F : Fm} {δ : List SD} {te : TE} {ta : TA} {P : D → Prop} {C : Addr} {m : Str} {Pre : List D → Prop} {Post : List D → D → Prop} {PX : List D → Addr → List (Str × D) → Prop} {QX : Addr → List (Str × D) → Prop}
end
/-! x is True, whatever x is -/
/-! x.m(k = v, ..) -/
section
variable {F : Fm} {δ : List SD} {te : TE} {tk : TA} {P : D → Prop} {C : Addr} {m : Str} {n : Nat} {gV : List V → List V → List V} {gD : List D → List D → List D} {Pre : List D → Prop} {Post : List D → D → Prop} {PX : List D → Addr → List (Str × D) → Prop} {QX : Addr → List (Str × D) → Prop}
end
end Pf

/-! CoreZ6: C.m(..), m a static method of the class at C. -/
namespace Pf
open PySem L2 PfL LamX PfT HandSPX PyProof.Rows ClX
/-- C.m is a static method: its record at p, its def at g -/
structure SMet (K : PySem.W.Frag) (C : Addr) (mc : Value) (m : Str) (p g : Addr) : Prop where
  at_ : PySem.W.findCls K (.ref C) mc m = some (.get (.builtin "staticmethod.__get__") (.ref p) .none (.ref C))
  rc : ∃ rest, PySem.W.recIn K p "staticmethod" = some (.ref g :: rest)
  kp : PySem.W.keepIn K (.ref g) = true
section
variable {X : Cx} {CX : CXT} {k n : Nat} {C p g : Addr} {fd : FuncData} {ps ks : List Str} {dvs : List V} {ds : List Value} {mc : Value} {sp : Sp} {E : XK} {o e : Expr} {es : List Expr} {kws : List Keyword} {m : Str} {pos apos : Pos} {ta : TE} {t tk : TA} {pl : Sem Bool} {g' : List Value → List Value → List Value} {gV : List V → List V → List V}
end
section
variable {F : Fm} {δ : List SD} {te : TE} {ta tk : TA} {P : D → Prop} {C : Addr} {n m : Nat} {gV : List V → List V → List V} {gD : List D → List D → List D} {Pre : List D → Prop} {Post : List D → D → Prop} {PX : List D → Addr → List (Str × D) → Prop} {QX : Addr → List (Str × D) → Prop}
end
/-! x | y and the like, of two instances of one class, by a def of its own -/
theorem units65 {k : Nat} {A : Around} (r : Room k A) : A.units + 65 < cLine := by
  have := r.un
  omega
end Pf

/-! CoreW0: defs with *args that may raise; methods asked by a promise of their values alone. -/
namespace Pf
open PySem L2 PfL LamX PfT HandSPX PyProof.Rows
section
variable {P : Program} {w : World} {K : PySem.W.Frag} {mg : Str → Option Value} {base : Heap} {k n : Nat} {Pre : List D → Prop} {Post : List D → D → Prop} {PX : List D → Addr → List (Str × D) → Prop}
end
section
variable {F : Fm} {δ : List SD} {te ta tb : TE} {PX : List D → Prop}
end
end Pf

/-! CoreW1: min of a tuple of ints, t * n from n = 1 on. -/
namespace Pf
open PySem PySem.Spec L2 PfL LamX PfT HandSPX PyProof.Rows
end Pf

/-! CoreW2: an __init__ of data that may raise, with keywords and defaults; x not in a tuple of texts, x anything. -/
namespace Pf
open PySem PySem.Spec L2 PfL LamX PfT HandSPX PyProof.Rows
section
variable {K : PySem.W.Frag} {N : List Str} {vs : List V} {H : Hp} {Q : VK} {E : XK} {t : TS} {C : Addr} {Pre : List D → Prop} {Post : List D → List (Str × D) → Prop} {PX : List D → Addr → List (Str × D) → Prop}
end
section
variable {F : Fm} {δ : List SD} {ta tk : TA} {P : D → Prop} {C : Addr} {Pre : List D → Prop} {Post : List D → List (Str × D) → Prop} {PX : List D → Addr → List (Str × D) → Prop} {QX : Addr → List (Str × D) → Prop}
end
/-! x not in a tuple of texts -/
def rNinTx (K : PySem.W.Frag) : R2 := fun x y H Q => ∃ (d : PyData) (zs : List Str), Dp K H x d ∧ Dp K H y (.tuple (zs.map .str)) ∧ d.plain = true ∧ Q (.bl (!(zs.map PyData.str).any fun z => PyData.eqv z d)) H
theorem txs_plain : ∀ zs : List Str, PyData.plainAll (zs.map PyData.str) = true
  | [] => by simp [PyData.plainAll]
  | z :: zs => by simp [PyData.plainAll, PyData.plain, txs_plain zs]
theorem txs_depth : ∀ zs : List Str, PyData.depthAll (zs.map PyData.str) = 0
  | [] => by simp [PyData.depthAll]
  | z :: zs => by simp [PyData.depthAll, PyData.depth, txs_depth zs]
theorem op_ninTx {X : Cx} (K : PySem.W.Frag) (hu : X.A.units + 65 < cLine) (hK : X.K = K := by rfl) : OpR X (compareOp .NotIn) (rNinTx K) := by
  subst hK
  intro pins s σ H x y v u Q I rx ry h
  obtain ⟨d, zs, hd, he, pl, q⟩ := h
  obtain ⟨as, r1⟩ := Dp.reads I d x v hd rx
  obtain ⟨bs, r2⟩ := Dp.reads I (.tuple (zs.map .str)) y u he ry
  exact SeqAt.notIn_tuple_data r2 r1 (txs_plain zs) pl (by rw [txs_depth, Nat.zero_min]; omega) ⟨.bl _, H, I, rfl, q⟩
def inTx (zs : List Str) : D → Bool
  | .str s => decide (s ∈ zs)
  | _ => false
theorem any_tx (zs : List Str) (x : D) (hx : plainD x = true) : ((zs.map PyData.str).any fun z => PyData.eqv z (pyd x)) = inTx zs x := by
  induction zs with
  | nil => cases x <;> rfl
  | cons z zs ih =>
    rw [List.map_cons, List.any_cons, ih]
    cases x with
    | str s => simp only [pyd, PyData.eqv, inTx, List.mem_cons, Bool.beq_eq_decide_eq, eq_comm (a := s) (b := z), Bool.decide_or]
    | _ => first | (simp [pyd, PyData.eqv, inTx]; done) | cases hx
mutual
theorem plain_pyd : ∀ d : D, plainD d = true → (pyd d).plain = true
  | .non, _ => rfl
  | .bl _, _ => rfl
  | .int _, _ => rfl
  | .str _, _ => rfl
  | .lst xs, h => by
    simp only [pyd, PyData.plain]
    exact plainL_pyd xs h
  | .tup xs, h => by
    simp only [pyd, PyData.plain]
    exact plainL_pyd xs h
  | .dic _, h => by cases h
  | .ins _ _, h => by cases h
  | .ty _, h => by cases h
  | .adr _, h => by cases h
  | .exc _ _, h => by cases h
  | .fn _ _ _ _, h => by cases h
theorem plainL_pyd : ∀ xs : List D, plainL xs = true → PyData.plainAll (pydL xs) = true
  | [], _ => rfl
  | x :: xs, h => by
    have h : (plainD x && plainL xs) = true := h
    rw [Bool.and_eq_true] at h
    simp only [pydL, PyData.plainAll, plain_pyd x h.1, plainL_pyd xs h.2, Bool.and_self]
end
theorem od_ninTx {K : PySem.W.Frag} {P : D → Prop} {x : D} {zs : List Str} (px : plainD x = true) (p : P (.bl (!inTx zs x))) : OpD K (rNinTx K) x (.tup (txsD zs)) P := fun M H v w Q al r1 r2 q => by
  have e : pyd (.tup (txsD zs)) = .tuple (zs.map .str) := by
    simp only [pyd, pydL_map, txsD, List.map_map]
    rfl
  have pt : plainD (.tup (txsD zs)) = true := by
    show plainL (txsD zs) = true
    have key : ∀ zs : List Str, plainL (txsD zs) = true := fun zs => by
      induction zs with
      | nil => rfl
      | cons z zs ih => exact ih
    exact key zs
  refine ⟨pyd x, zs, rep_dp (r1.mono (same_hd M H)) px, ?_, plain_pyd x px, ?_⟩
  · rw [← e]
    exact rep_dp (r2.mono (same_hd M H)) pt
  · rw [any_tx zs x px]
    exact q _ _ H p (Same.refl H) (.bl _)
end Pf

/-! CoreW3: C.m(k = v, ..), m a static method. -/
namespace Pf
open PySem L2 PfL LamX PfT HandSPX PyProof.Rows ClX
end Pf

/-! CoreW4: defs beside the law that make lambdas: their tables, their promises. -/
namespace Pf
open PySem L2 PfL LamX PfT HandSPX PyProof.Rows ClX
/-! ### a def that makes lambdas, asked by a frame that knows its table -/
section
variable {F : Fm} {δ : List SD} {ta : TA} {Pd : D → Prop} {Pre : List D → Prop} {Post : List D → D → Prop} {E : XK} {P : Addr} {q : Str}
end
section
variable {K : PySem.W.Frag} {N : List Str} {vs : List V} {H : Hp} {Q : VK} {E : XK} {t : TS} {Pre : List D → Prop} {Post : List D → D → Prop} {P : Addr} {q : Str}
end
/-! ### the law's frame, with more than one table -/
end Pf

/-! CoreW5: index in a tuple of ints (the call alone: finding the method wants dict = none, which HO.tup does not tell), min and max of two ints. -/
namespace Pf
open PySem PySem.Spec L2 PfL LamX PfT HandSPX PyProof.Rows
/-! min(a, b), max(a, b) of two ints -/
def rMin2 : List V → Hp → VK → Prop := fun vs H Q => ∃ a b : Int, vs = [V.int a, V.int b] ∧ Q (.int (min a b)) H
def rMax2 : List V → Hp → VK → Prop := fun vs H Q => ∃ a b : Int, vs = [V.int a, V.int b] ∧ Q (.int (max a b)) H
theorem callMin2 {X : Cx} (hc : X.calm = true := by rfl) : CallR X (.builtin "min") rMin2 := by
  intro pins s σ H vs us Q I r h
  obtain ⟨a, b, rfl, q⟩ := h
  cases r with
  | cons ra r =>
    cases r with
    | cons rb r =>
      cases r
      obtain ⟨t, rfl⟩ := ra
      obtain ⟨u, rfl⟩ := rb
      refine PySem.Flt.min_two_num (I.ok.hd hc) (.int _ _) (.int _ _) fun h' tk kp => ?_
      refine ⟨.int (min a b), H, I.kept kp, ?_, q⟩
      by_cases hlt : b < a
      · rw [if_pos (by simp [PySem.Flt.ltV, hlt])]
        exact ⟨u, by rw [show min a b = b by omega]⟩
      · rw [if_neg (by simp [PySem.Flt.ltV]; omega)]
        exact ⟨t, by rw [show min a b = a by omega]⟩
theorem callMax2 {X : Cx} (hc : X.calm = true := by rfl) : CallR X (.builtin "max") rMax2 := by
  intro pins s σ H vs us Q I r h
  obtain ⟨a, b, rfl, q⟩ := h
  cases r with
  | cons ra r =>
    cases r with
    | cons rb r =>
      cases r
      obtain ⟨t, rfl⟩ := ra
      obtain ⟨u, rfl⟩ := rb
      refine PySem.Flt.max_two_num (I.ok.hd hc) (.int _ _) (.int _ _) fun h' tk kp => ?_
      refine ⟨.int (max a b), H, I.kept kp, ?_, q⟩
      by_cases hlt : a < b
      · rw [if_pos (by simp [PySem.Flt.ltV, hlt])]
        exact ⟨u, by rw [show max a b = b by omega]⟩
      · rw [if_neg (by simp [PySem.Flt.ltV]; omega)]
        exact ⟨t, by rw [show max a b = a by omega]⟩
section
variable {P : D → Prop} {K : PySem.W.Frag}
theorem cd_minI {a b : Int} (p : P (.int (min a b))) : CallD K rMin2 [.int a, .int b] P := fun M H vs Q al r q => by
  cases r with
  | cons r1 r =>
    cases r with
    | cons r2 r =>
      cases r
      cases r1
      cases r2
      exact ⟨a, b, rfl, q _ _ H p (Same.refl H) (.int _)⟩
theorem cd_maxI {a b : Int} (p : P (.int (max a b))) : CallD K rMax2 [.int a, .int b] P := fun M H vs Q al r q => by
  cases r with
  | cons r1 r =>
    cases r with
    | cons r2 r =>
      cases r
      cases r1
      cases r2
      exact ⟨a, b, rfl, q _ _ H p (Same.refl H) (.int _)⟩
end
end Pf

/-! CoreW6: a dict comprehension. -/
namespace Pf
open PySem PySem.Spec L2 PfL LamX PfT HandSPX PyProof.Rows
section
variable {J : _} {n : Nat} {G : Hp → Prop} {Y : _}
theorem dc_it (w : Walk J n G Y) {g : TG} {tt : TT} {tk tv : TE} {vs : List Nat} {σ : L2.St} {H1 : Hp} {D : Addr} {Qd : Hp → Prop} (Pv : Nat → Hp → Prop) (h0 : Pv 0 (upd H1 D (.dK []))) (hG : ∀ i H, i ≤ n → Pv i H → G H)
    (hs : ∀ i x H H', i < n → Pv i H → Y i H x H' → g x (wipe σ vs) H' fun σ2 H2 => wipe σ2 vs = wipe σ vs ∧ tt σ2 H2 fun b H3 =>
      if b = true then tk σ2 H3 fun y H4 => tv σ2 H4 fun z H5 => ∃ kvs k, y = kV k ∧ H5 D = some (.dK kvs) ∧ kvs.length < sizeLine ∧ Pv (i + 1) (upd H5 D (.dK (putK kvs k z))) else Pv (i + 1) H3) (hd : ∀ H, Pv n H → Qd H) :
    ∃ W : Nat → Nat → Hp → Prop, (∃ m, W 0 m (upd H1 D (.dK []))) ∧ ∀ i m H, W i m H →
      (J.stop i H ∧ Qd H) ∨ (J.go i H ∧ ∃ Nx : Hp → Prop, (∀ H', Nx H' → ∃ m', m' < m ∧ W (i + 1) m' H') ∧ ∀ x H', J.yld i H x H' → g x (wipe σ vs) H' fun σ2 H2 => wipe σ2 vs = wipe σ vs ∧ tt σ2 H2 fun b H3 =>
        if b = true then tk σ2 H3 fun y H4 => tv σ2 H4 fun z H5 => ∃ kvs k, y = kV k ∧ H5 D = some (.dK kvs) ∧ kvs.length < sizeLine ∧ Nx (upd H5 D (.dK (putK kvs k z))) else Nx H3) := by
  refine ⟨fun i m H => m = n - i ∧ i ≤ n ∧ Pv i H, ⟨n, by simp, Nat.zero_le _, h0⟩, ?_⟩
  rintro i m H ⟨rfl, hi, p⟩
  have q := hG i H hi p
  by_cases hlt : i < n
  · refine .inr ⟨w.goes i H hlt q, Pv (i + 1), fun H' p' => ⟨n - (i + 1), by omega, rfl, hlt, p'⟩, fun x H' y => hs i x H H' hlt p (w.yields i H x H' hlt q y)⟩
  · have e : i = n := by omega
    subst e
    exact .inl ⟨w.stops H q, hd H p⟩
end
section
variable {F : Fm} {δ : List SD} {tk tv : TE} {tt : TT} {P : D → Prop} {PX : List D → Prop} {g : TG} {wi : TI}
/-- {k: v for target in iter if ..}: a new dict -/
theorem ev_dc {js vs : List Nat} (hw : ItD F wi δ PX) (hl : ∀ xs, PX xs → xs.length ≤ 100000) (hj : ∀ j ∈ js, j ∈ vs) (I : List D → Nat → List (Key × D) → Prop) (h0 : ∀ xs, PX xs → I xs 0 [])
    (hs : ∀ xs i x acc, PX xs → xs[i]? = some x → I xs i acc → TgD F g js x (wipeD δ vs) fun δ' => EvT F tt δ' fun b => (b = true → Ev F tk δ' fun y => Ev F tv δ' fun z => ∃ k, y = kD k ∧ I xs (i + 1) (putD acc k z)) ∧ (b = false → I xs (i + 1) acc))
    (he : ∀ xs ds, PX xs → I xs xs.length ds → P (.dic ds)) : Ev F (tDc wi g tt tk tv vs) δ P := fun M σ H Q c q => by
  refine hw M σ H _ c fun J xs H1 px c1 e1 wd => ?_
  intro A hA
  obtain ⟨G, Y, w, wg, wy⟩ := wd
  have hA0 : H A = none := by
    cases z : H A with
    | none => rfl
    | some o =>
      have := e1 A o (c1.nob hA) z
      rw [hA] at this
      cases this
  have c2 := c1.hide hA (o := .dK [])
  have mA := al_none c1.al hA
  have s0 : Same (hd M H1) (hd (hid M A) (upd H1 A (.dK []))) := fun a u e => by
    obtain ⟨m, h⟩ := hd_of e
    have n : a ≠ A := ne_of_none h hA
    exact hd_at (by rw [hid_ne n]; exact m) (by rw [upd_ne n]; exact h)
  have k0 : StepB F.mv H (upd H1 A (.dK [])) := e1.trans (StepB.of (same_new hA))
  have hlen := hl xs px
  have ww : ∀ σ2 : L2.St, wipe σ2 vs = wipe (wipe σ vs) vs → wipe σ2 vs = wipe σ vs := fun σ2 h => by
    rw [h]
    have key : ∀ (ws : List Nat) (τ : L2.St), (∀ j ∈ ws, j ∈ vs) → wipe (wipe τ ws) vs = wipe τ vs := by
      intro ws
      induction ws with
      | nil => intro τ _; rfl
      | cons j js ih =>
        intro τ hjs
        show wipe ((wipe τ js).set j none) vs = wipe τ vs
        rw [wipe_set (hjs j (by simp)), ih τ fun k hk => hjs k (List.mem_cons_of_mem _ hk)]
    exact key vs σ fun _ h => h
  refine dc_it w (fun i H' => ∃ ws acc, I xs i acc ∧ acc.length ≤ i ∧ Ctx F (hid M A) σ H' δ ∧ StepB F.mv H H' ∧ Same (hd M H1) (hd (hid M A) H') ∧ H' A = some (.dK ws) ∧ RepK F.K (hd (hid M A) H') ws acc)
    ⟨[], [], h0 xs px, Nat.le_refl _, c2, k0, s0, upd_same, .nil⟩ (fun i H' _ ⟨_, _, _, _, c', _, s, _⟩ => wg (hid M A) H' s c'.fr) ?_ ?_
  · rintro i x H' H2 hi ⟨ws, acc, hI, ha, c', k', s, hAl, r⟩ y
    obtain ⟨s2, dx, h1, rx⟩ := wy (hid M A) H' i x H2 c'.al s y
    have c2 := c'.same s2
    refine hs xs i dx acc px h1 hI (hid M A) (wipe σ vs) H2 x _ (c2.wipe vs) rx fun σ3 H3 δ3 p3 c3 e3 w3 => ⟨ww σ3 (w3 vs hj), ?_⟩
    refine p3 (hid M A) σ3 H3 _ c3 fun b H4 pb c4 e4 => ?_
    have k4 : StepB F.mv H2 H4 := e3.trans e4
    have c24 : Ctx F (hid M A) σ H4 δ := c2.stepG k4 c4.bg
    have s24 : Same (hd (hid M A) H2) (hd (hid M A) H4) := hd_step c2 k4
    have hA2 : H2 A = some (.dK ws) := s2 _ _ hAl
    have hA4 : H4 A = some (.dK ws) := k4 A _ (c1.nob hA) hA2
    have k' : StepB F.mv H H2 := k'.trans (StepB.of s2)
    have s' : Same (hd M H1) (hd (hid M A) H2) := s.trans (same_hdM s2)
    have r' : RepK F.K (hd (hid M A) H2) ws acc := r.mono (same_hdM s2)
    cases b with
    | false =>
      rw [if_neg Bool.false_ne_true]
      exact ⟨ws, acc, pb.2 rfl, Nat.le_succ_of_le ha, c24, k'.trans k4, s'.trans s24, hA4, r'.mono s24⟩
    | true =>
      rw [if_pos rfl]
      refine pb.1 rfl (hid M A) σ3 H4 _ c4 fun vk dk H5 pk c5 e5 r5 => pk (hid M A) σ3 H5 _ c5 fun v d H6 pd c6 e6 r6 => ?_
      obtain ⟨k, rfl, pd⟩ := pd
      obtain rfl := rep_key r5
      have k6 : StepB F.mv H2 H6 := (k4.trans e5).trans e6
      have c26 : Ctx F (hid M A) σ H6 δ := c2.stepG k6 c6.bg
      have s26 : Same (hd (hid M A) H2) (hd (hid M A) H6) := hd_step c2 k6
      have hA6 : H6 A = some (.dK ws) := k6 A _ (c1.nob hA) hA2
      have hm : hd (hid M A) (upd H6 A (.dK (putK ws k v))) = hd (hid M A) H6 := hd_upd hid_same
      have hal : acc.length < 100000 := by omega
      refine ⟨ws, k, rfl, hA6, by rw [r.length]; exact sz_lt hal, putK ws k v, putD acc k d, pd, ?_, ?_, ?_, ?_, upd_same, ?_⟩
      · have := putD_len (kvs := acc) (k := k) (d := d)
        omega
      · exact c26.poke hid_same hA6 (c1.h0 hA) (c1.nob hA) (c1.nown hA)
      · intro a o n h
        by_cases e : a = A
        · subst e
          rw [hA0] at h
          cases h
        · rw [upd_ne e]
          exact k6 a o n (k' a o n h)
      · rw [hm]
        exact s'.trans s26
      · rw [hm]
        exact (r'.mono s26).put r6
  · rintro H' ⟨ws, acc, hI, ha, c', k', s, hAl, r⟩
    have m := al_none c.al hA0
    have s3 : Same (hd (hid M A) H') (hd M H') := same_hd_le hid_le
    exact q _ (.dic acc) H' (he xs acc px hI) (c'.show' m (c1.h0 hA) (c1.nown hA)) k' (.dic (hd_at m hAl) (r.mono s3))
end
end Pf

/-! CoreW7: pairs of a number and a text, sorted. -/
namespace Pf
open PySem PySem.Spec L2 PfL LamX PfT HandSPX PyProof.Rows
def gD (p : Int × Str) : D := .tup [.int p.1, .str p.2]
theorem pyd_g (p : Int × Str) : pyd (gD p) = .tuple [.int p.1, .str p.2] := by simp [gD, pyd, pydL]
theorem sortOk_g (ps : List (Int × Str)) : SortOk (ps.map gD) := by
  have e : (ps.map gD).map pyd = ps.map fun p => PyData.tuple [.int p.1, .str p.2] := by
    rw [List.map_map]
    exact List.map_congr_left fun p _ => pyd_g p
  refine ⟨?_, ?_, ?_, fun d hd => ?_⟩
  · clear e
    induction ps with
    | nil => simp [plainL]
    | cons p ps ih => simp only [List.map_cons, plainL, gD, plainD, Bool.and_true, Bool.true_and]; exact ih
  · rw [e]
    exact PySem.W.AllAlike.of fun r r' => by simp [PySem.W.alike, PySem.W.alikeAll]
  · rw [e]
    exact PySem.W.Sortable.tuples fun r => ⟨_, _, rfl⟩
  · obtain ⟨p, _, rfl⟩ := List.mem_map.mp hd
    rw [pyd_g]
    simp only [PyData.depth, PyData.depthAll]
    decide
end Pf

/-! CoreW8: a comprehension over the items of a dict of one's own (locked meanwhile). -/
namespace Pf
open PySem PySem.Spec L2 PfL LamX PfT HandSPX
theorem rep_kV {K : PySem.W.Frag} {H : Hp} (k : Key) : Rep K H (kV k) (kD k) := by
  cases k with
  | inl n => exact .int n
  | inr z => exact .str z
theorem RepK.getV {K : PySem.W.Frag} {H : Hp} : ∀ {vs : List (Key × V)} {ds : List (Key × D)} {n : Nat} {k : Key} {w : V}, RepK K H vs ds → vs[n]? = some (k, w) → ∃ d, ds[n]? = some (k, d) ∧ Rep K H w d
  | _, _, _, _, _, .nil, h => by simp at h
  | _, _, 0, k, w, .cons r rs, h => by
    simp only [List.getElem?_cons_zero, Option.some.injEq, Prod.mk.injEq] at h
    obtain ⟨rfl, rfl⟩ := h
    exact ⟨_, rfl, r⟩
  | _, _, n + 1, k, w, .cons r rs, h => by
    obtain ⟨d, h1, h2⟩ := RepK.getV rs (n := n) (by simpa using h)
    exact ⟨d, by simpa using h1, h2⟩
section
variable {F : Fm} {M : Addr → Bool} {σ : L2.St} {H : Hp} {δ : List SD}
theorem Ctx.unslot (c : Ctx F M σ H δ) (i : Nat) : Ctx F M σ H (δ.set i .un) := by
  have key : ∀ {j : Nat} {x : SD}, (δ.set i .un)[j]? = some x → x = .un ∨ δ[j]? = some x := fun {j x} hx => by
    rcases set_key hx with ⟨_, rfl, _⟩ | ⟨_, h⟩
    · exact .inl rfl
    · exact .inr h
  refine ⟨c.al, c.al0, c.m0, c.fr, c.bg, by rw [List.length_set]; exact c.ln, fun j x hx => ?_, fun j k p ds es h1 h2 => ?_, fun j p ds h => ?_⟩
  · rcases key hx with rfl | h
    · have hj : j < σ.length := by
        have := (List.getElem?_eq_some_iff.mp hx).1
        rw [List.length_set] at this
        rw [c.ln]
        exact this
      exact ⟨σ[j], by simp [hj], trivial⟩
    · exact c.sl j x h
  · rcases key h1 with z | h1
    · cases z
    · rcases key h2 with z | h2
      · cases z
      · exact c.dj j k p ds es h1 h2
  · rcases key h with z | h
    · cases z
    · exact c.oh j p ds h
theorem en_items {g : TG} {tt : TT} {te : TE} {P : List D → Prop} {i : Nat} {p : Addr} {kvs : List (Key × D)} (hi : δ[i]? = some (.own p (.dic kvs))) (hl : kvs.length ≤ 100000) {js vs : List Nat} (hj : ∀ j ∈ js, j ∈ vs) (I : Nat → List D → Prop) (h0 : I 0 [])
    (hs : ∀ n kv acc, kvs[n]? = some kv → I n acc → TgD F g js (.tup [kD kv.1, kv.2]) (wipeD (δ.set i .un) vs) fun δ' => EvT F tt δ' fun b => (b = true → Ev F te δ' fun y => I (n + 1) (acc ++ [y])) ∧ (b = false → I (n + 1) acc))
    (he : ∀ ds, I kvs.length ds → P ds) : EvN F (tLockE (tLc (iItems (tVar i)) g tt te vs)) δ P := fun M σ H Q c q => by
  obtain ⟨y, h1, hy, m, u, hp, rO⟩ := c.sl i _ hi
  subst hy
  cases rO with
  | @dic us _ rk =>
  refine ⟨p, .dK us, hp, trivial, fun od => ?_⟩
  have hoh := c.oh i p _ hi
  have no : ∀ (j : Nat) (es : OD), (δ.set i .un)[j]? ≠ some (.own p es) := fun j es h => by
    rcases set_key h with ⟨_, z, _⟩ | ⟨hn, h⟩
    · cases z
    · exact hn (c.dj i j p _ es hi h)
  have cL : Ctx F M σ (upd H p (.frz od (.dK us))) (δ.set i .un) := (c.unslot i).poke m hp hoh.1 hoh.2 no
  have eL : hd M (upd H p (.frz od (.dK us))) = hd M H := hd_upd m
  generalize hHl : upd H p (.frz od (.dK us)) = Hl at cL eL ⊢
  have hpl : Hl p = some (.frz od (.dK us)) := by rw [← hHl]; exact upd_same
  have hne : ∀ a, a ≠ p → Hl a = H a := fun a n => by rw [← hHl]; exact upd_ne n
  refine ⟨V.ref p, h1, p, od, us, rfl, hpl, ?_⟩
  intro A hA
  have nAp : A ≠ p := fun e => by rw [e, hpl] at hA; cases hA
  have c2 := cL.hide hA (o := .lst [])
  have mA := al_none cL.al hA
  have s0 : Same (hd M Hl) (hd (hid M A) (upd Hl A (.lst []))) := fun a u e => by
    obtain ⟨m, h⟩ := hd_of e
    have n : a ≠ A := ne_of_none h hA
    exact hd_at (by rw [hid_ne n]; exact m) (by rw [upd_ne n]; exact h)
  have k0 : StepB F.mv Hl (upd Hl A (.lst [])) := StepB.of (same_new hA)
  have hlen : us.length = kvs.length := rk.length
  have ww : ∀ σ2 : L2.St, wipe σ2 vs = wipe (wipe σ vs) vs → wipe σ2 vs = wipe σ vs := fun σ2 h => by
    rw [h]
    have key : ∀ (ws : List Nat) (τ : L2.St), (∀ j ∈ ws, j ∈ vs) → wipe (wipe τ ws) vs = wipe τ vs := by
      intro ws
      induction ws with
      | nil => intro τ _; rfl
      | cons j js ih =>
        intro τ hjs
        show wipe ((wipe τ js).set j none) vs = wipe τ vs
        rw [wipe_set (hjs j (by simp)), ih τ fun k hk => hjs k (List.mem_cons_of_mem _ hk)]
    exact key vs σ fun _ h => h
  refine lc_it walk_items (fun n H' => ∃ ws acc, I n acc ∧ acc.length ≤ n ∧ Ctx F (hid M A) σ H' (δ.set i .un) ∧ StepB F.mv Hl H' ∧ Same (hd M Hl) (hd (hid M A) H') ∧ H' A = some (.lst ws) ∧ RepL F.K (hd (hid M A) H') ws acc ∧ H' p = some (.frz od (.dK us)))
    ⟨[], [], h0, Nat.le_refl _, c2, k0, s0, upd_same, .nil, by rw [upd_ne (Ne.symm nAp)]; exact hpl⟩ (fun _ _ _ ⟨_, _, _, _, _, _, _, _, _, hf⟩ => hf) ?_ ?_
  · rintro n x H' H2 hn ⟨ws, acc, hI, ha, c', k', s, hAl, r, hf⟩ ⟨T, v, w, rfl, hT, rfl, e1, e2⟩
    obtain ⟨⟨k, w0⟩, hkv⟩ : ∃ kv, us[n]? = some kv := ⟨us[n], by simp [hn]⟩
    have e1 : us[n]?.map (fun kv => kV kv.1) = some v := e1
    have e2 : us[n]?.map Prod.snd = some w := e2
    rw [hkv] at e1 e2
    obtain rfl := Option.some.inj e1
    obtain rfl := Option.some.inj e2
    obtain ⟨d0, hd0, r0⟩ := RepK.getV rk hkv
    have s2 : Same H' (upd H' T (.tup [kV k, w0])) := same_new hT
    have rw0 : Rep F.K (hd (hid M A) H') w0 d0 := (by rw [← eL] at r0; exact r0.mono s)
    have rx := pair_ok c'.al hT (rep_kV (K := F.K) (H := hd (hid M A) H') k) rw0
    have c2 := c'.same s2
    refine hs n (k, d0) acc hd0 hI (hid M A) (wipe σ vs) _ _ _ (c2.wipe vs) rx fun σ3 H3 δ3 p3 c3 e3 w3 => ⟨ww σ3 (w3 vs hj), ?_⟩
    refine p3 (hid M A) σ3 H3 _ c3 fun b H4 pb c4 e4 => ?_
    generalize upd H' T (.tup [kV k, w0]) = H2 at *
    have k4 : StepB F.mv H2 H4 := e3.trans e4
    have c24 : Ctx F (hid M A) σ H4 (δ.set i .un) := c2.stepG k4 c4.bg
    have s24 : Same (hd (hid M A) H2) (hd (hid M A) H4) := hd_step c2 k4
    have hA2 : H2 A = some (.lst ws) := s2 _ _ hAl
    have hnA : ¬ F.mv A := cL.nob hA
    have hA4 : H4 A = some (.lst ws) := k4 A _ hnA hA2
    have k' : StepB F.mv Hl H2 := k'.trans (StepB.of s2)
    have s' : Same (hd M Hl) (hd (hid M A) H2) := s.trans (same_hdM s2)
    have r' : RepL F.K (hd (hid M A) H2) ws acc := r.mono (same_hdM s2)
    have hf2 : H2 p = some (.frz od (.dK us)) := s2 _ _ hf
    cases b with
    | false =>
      rw [if_neg Bool.false_ne_true]
      exact ⟨ws, acc, pb.2 rfl, Nat.le_succ_of_le ha, c24, k'.trans k4, s'.trans s24, hA4, r'.mono s24, k4 p _ hoh.2 hf2⟩
    | true =>
      rw [if_pos rfl]
      refine pb.1 rfl (hid M A) σ3 H4 _ c4 fun v d H5 pd c5 e5 r5 => ?_
      have k5 : StepB F.mv H2 H5 := k4.trans e5
      have c25 : Ctx F (hid M A) σ H5 (δ.set i .un) := c2.stepG k5 c5.bg
      have s25 : Same (hd (hid M A) H2) (hd (hid M A) H5) := hd_step c2 k5
      have hA5 : H5 A = some (.lst ws) := k5 A _ hnA hA2
      have hm : hd (hid M A) (upd H5 A (.lst (ws ++ [v]))) = hd (hid M A) H5 := hd_upd hid_same
      have hal : acc.length < 100000 := by omega
      refine ⟨ws, hA5, by rw [r.length]; exact sz_lt hal, ws ++ [v], acc ++ [d], pd, by simp only [List.length_append, List.length_cons, List.length_nil]; omega, ?_, ?_, ?_, upd_same, ?_, ?_⟩
      · exact c25.poke hid_same hA5 (cL.h0 hA) hnA (cL.nown hA)
      · intro a o n h
        by_cases e : a = A
        · subst e
          rw [hA] at h
          cases h
        · rw [upd_ne e]
          exact k5 a o n (k' a o n h)
      · rw [hm]
        exact s'.trans s25
      · rw [hm]
        exact (r'.mono s25).append (RepL.one r5)
      · rw [upd_ne (Ne.symm nAp)]
        exact k5 p _ hoh.2 hf2
  · rintro H' ⟨ws, acc, hI, ha, c', k', s, hAl, r, hf⟩
    refine ⟨hf, ?_⟩
    have hA0 : H A = none := by rw [← hne A nAp]; exact hA
    have mp : hid M A p = true := hid_le p m
    have c3 : Ctx F (hid M A) σ (upd H' p (.dK us)) (δ.set i .un) := c'.poke mp hf hoh.1 hoh.2 no
    have eU : hd (hid M A) (upd H' p (.dK us)) = hd (hid M A) H' := hd_upd mp
    have rk' : RepK F.K (hd (hid M A) (upd H' p (.dK us))) us kvs := by
      rw [eU]
      rw [← eL] at rk
      exact rk.mono s
    have c4 := c3.setOwn i mp upd_same (.dic rk') hoh.1 hoh.2 (fun j es _ => no j es)
    have e1 : σ.set i (some (V.ref p)) = σ := by
      obtain ⟨hlt, e⟩ := List.getElem?_eq_some_iff.mp h1
      rw [← e]
      exact List.set_getElem_self hlt
    have e2 : (δ.set i .un).set i (.own p (.dic kvs)) = δ := by
      rw [List.set_set]
      obtain ⟨hlt, e⟩ := List.getElem?_eq_some_iff.mp hi
      rw [← e]
      exact List.set_getElem_self hlt
    rw [e1, e2] at c4
    refine q A ws acc _ (he acc (by rw [← hlen]; exact hI)) c4 hA0 (cL.h0 hA) (cL.nob hA) (fun j es h => ?_) ?_ (by rw [upd_ne nAp]; exact hAl) (by rw [eU]; exact r)
    · have := (c.sl j _ h)
      obtain ⟨_, _, _, mA', u', hu', _⟩ := this
      rw [hA0] at hu'
      cases hu'
    · intro a o n h
      by_cases e : a = p
      · subst e
        rw [hp] at h
        cases h
        exact upd_same
      · rw [upd_ne e]
        exact k' a o n (by rw [hne a e]; exact h)
end
end Pf

/-! CoreW9: len of a dict; a tuple gone through where a list may stand. -/
namespace Pf
open PySem PySem.Spec L2 PfL LamX PfT HandSPX
def rLenD : List V → Hp → VK → Prop := fun xs H Q => ∃ (a : Addr) (kvs : List (Key × V)), xs = [.ref a] ∧ H a = some (.dK kvs) ∧ Q (.int (kvs.length : Nat)) H
theorem callLenD {X : Cx} : CallR X (.builtin "len") rLenD := by
  intro pins s σ H xs us Q I r h
  obtain ⟨a, kvs, rfl, e, q⟩ := h
  rw [Vals.ref1 r]
  exact d_len I (.inl e) fun t s' I' => ⟨.int _, H, I', ⟨_, rfl⟩, q⟩
theorem cd_lenD {K : PySem.W.Frag} {P : D → Prop} {kvs : List (Key × D)} (p : P (.int (kvs.length : Int))) : CallD K rLenD [.dic kvs] P := fun M H vs Q al r q => by
  cases r with
  | cons r1 r2 =>
    cases r2
    cases r1 with
    | dic h1 h2 => exact ⟨_, _, rfl, (hd_of h1).2, q _ _ H (by rw [← h2.length] at p; exact p) (Same.refl H) (.int _)⟩
theorem it_seqT {F : Fm} {δ : List SD} {te : TE} {PX : List D → Prop} (h : Ev F te δ fun d => ∃ ds, d = .tup ds ∧ PX ds) : ItD F (iSeq F.K te) δ PX := fun M σ H R c q =>
  h M σ H _ c fun v d H1 p c1 e r => by
    obtain ⟨ds, rfl, p⟩ := p
    cases r with
    | tup h1 h2 => exact ⟨_, _, rfl, .inr ⟨same_tup (same_hd M H1) h1, q _ ds H1 p c1 e (walkD_tup h1 h2)⟩⟩
end Pf

/-! CoreW10: d[k] of a dict of one's own. -/
namespace Pf
open PySem PySem.Spec L2 PfL LamX PfT HandSPX
theorem ev_dgetO {F : Fm} {δ : List SD} {ty : TE} {P : D → Prop} {i : Nat} {p : Addr} {kvs : List (Key × D)} (hi : δ[i]? = some (.own p (.dic kvs))) (h : Ev F ty δ fun y => ∃ k d, y = kD k ∧ valD kvs k = some d ∧ P d) : Ev F (tDGet (tVar i) ty) δ P := fun M σ H Q c q => by
  obtain ⟨s, hs, e, _⟩ := c.sl i _ hi
  subst e
  refine ⟨_, hs, ?_⟩
  refine h M σ H _ c fun w y H1 p1 c1 e1 r1 => ?_
  obtain ⟨k0, d, rfl, hd', p1⟩ := p1
  have ew := rep_key r1
  subst ew
  obtain ⟨s', hs', e', m', ho', hp', rr'⟩ := c1.sl i _ hi
  cases rr' with
  | @dic vs _ rr =>
    obtain ⟨v, g3, g4⟩ := (rr.val k0).2 d hd'
    refine ⟨p, v, rfl, ?_, q v d H1 p1 c1 e1 g4⟩
    rw [← g3]
    exact .k hp'
end Pf

/-! CoreW11: a, b = x, a new list, by way of the tuple (where a name is a cell). -/
namespace Pf
open PySem PySem.Spec L2 PfL LamX PfT HandSPX
theorem do_asgN {F : Fm} {δ : List SD} {R : PD} {ta tb : TE} {i l : Nat} (h : Ev F ta δ fun x => EvN F tb δ fun ds => ∀ p, R.nx ((δ.set i (.dat x)).set l (.own p (.lst ds)))) : Do F (tAsg (tTup (tCons ta (tCons tb tNil))) (gTup F.K 2 (gCons (gName i) (gCons (gName l) gNil)))) δ R := fun M σ H E c a b k d =>
  h M σ H _ c fun v x H1 p1 c1 e1 r1 => p1 M σ H1 _ c1 fun p us ds H3 pd c3 hp h0 hb no e3 h3 r3 => by
    have k : StepB F.mv H H3 := e1.trans e3
    have hs : ∀ {Ha : Hp}, Ctx F M σ Ha δ → StepB F.mv Ha H3 → (Ha p = none) → Same (hd M Ha) (hd (hid M p) H3) := fun {Ha} ca ea hn x o hx => by
      obtain ⟨m, h1⟩ := hd_of hx
      have n : x ≠ p := ne_of_none h1 hn
      refine hd_at (by rw [hid_ne n]; exact m) (ea x o (fun z => ?_) h1)
      have := ca.m0 x (z.elim (fun z => (ca.bg.1 x z).1) fun ⟨p, z, e⟩ => e ▸ (ca.bg.2 p z).1)
      rw [m] at this
      cases this
    have n0 : H p = none := by
      cases z : H p with
      | none => rfl
      | some o =>
        have := e1 p o hb z
        rw [hp] at this
        cases this
    have ra := r1.mono (hs c1 e3 hp)
    have c4 := (c3.set i ra).setOwn l (p := p) hid_same h3 (.lst r3) h0 hb fun q es hq hs' => by
      rcases set_key hs' with ⟨_, z, _⟩ | ⟨_, hs'⟩
      · cases z
      exact no q es hs'
    refine ⟨by show 2 ≤ sizeLine; decide, fun T hT => ⟨T, [v, .ref p], rfl, SqT.of upd_same, rfl, v, [.ref p], rfl, .ref p, [], rfl, rfl, ?_⟩⟩
    exact a (hid M p) _ _ _ (pd p) (c4.same (same_new hT)) ((hs c k n0).trans (same_hdM (same_new hT)))
end Pf

/-! CoreW12: a new list of new lists, read for a while, one of its items then changed. -/
namespace Pf
open PySem PySem.Spec L2 PfL LamX PfT HandSPX
/-- the frame that begins behind: what stands then is its own heap -/
def Fm.at (F : Fm) (M : Addr → Bool) (H : Hp) : Fm := ⟨F.K, F.B, M, H, F.E, F.C0, F.T⟩
/-- what is known of a list of new lists that the frame F makes, the later frame being F.at M2 H2 -/
structure Gh (F : Fm) (M2 : Addr → Bool) (H2 : Hp) (p : Addr) (qs : List (Addr × List D)) : Prop where
  al0 : ∀ a, F.M0 a = true → ∃ o, F.H0 a = some o
  m0 : ∀ a, F.M0 a = true → M2 a = true
  fr : StepB F.mv F.H0 H2
  bg : (∀ b, F.B = some b → F.M0 b = true ∧ ∃ o, F.H0 F.C0 = some o) ∧ ∀ t ∈ F.T, F.M0 t.1 = true
  nw : ∀ a ∈ p :: qs.map Prod.fst, M2 a = false ∧ F.H0 a = none ∧ ¬ F.mv a
  nd : (p :: qs.map Prod.fst).Nodup
def okS : SD → Bool
  | .un => true
  | .dat _ => true
  | .bag => true
  | .own _ _ => true
  | _ => false
def okN : SD → Bool
  | .un => true
  | .dat _ => true
  | .bag => true
  | _ => false
section
variable {F : Fm} {M2 M : Addr → Bool} {H2 H : Hp} {σ : L2.St} {δ δ' : List SD} {p : Addr} {qs : List (Addr × List D)}
/-- back to the first frame -/
theorem Gh.back (g : Gh F M2 H2 p qs) (c : Ctx (F.at M2 H2) M σ H δ) (hl : δ'.length = δ.length) (hs : ∀ (i : Nat) (x : SD), δ'[i]? = some x → x = .un ∨ (okS x = true ∧ δ[i]? = some x)) : Ctx F M σ H δ' := by
  have fr2 : StepB F.mv H2 H := c.fr
  have h0 : ∀ a, H2 a = none → F.H0 a = none ∨ F.mv a := fun a h => by
    by_cases m : F.mv a
    · exact .inr m
    · left
      cases z : F.H0 a with
      | none => rfl
      | some o =>
        have := g.fr a o m z
        rw [h] at this
        cases this
  refine ⟨c.al, g.al0, fun a m => c.m0 a (g.m0 a m), g.fr.trans fr2, ⟨fun b z => ⟨(g.bg.1 b z).1, (c.bg.1 b z).2.1, (g.bg.1 b z).2⟩, fun t ht => ⟨g.bg.2 t ht, (c.bg.2 t ht).2⟩⟩, by rw [c.ln, hl], fun i x hx => ?_, fun i j q ds es h1 h2 => ?_, fun i q ds h => ?_⟩
  · rcases hs i x hx with rfl | ⟨ok, h⟩
    · have : i < σ.length := by
        have := (List.getElem?_eq_some_iff.mp hx).1
        rw [c.ln, ← hl]
        exact this
      exact ⟨σ[i], by simp [this], trivial⟩
    · obtain ⟨s, h1, h2⟩ := c.sl i x h
      refine ⟨s, h1, ?_⟩
      cases x with
      | un => trivial
      | dat d => exact h2
      | own q ds => exact h2
      | bag => exact h2
      | sq ds => cases ok
      | sl ds => cases ok
      | oll q rs => cases ok
  · rcases hs i _ h1 with z | ⟨_, h1⟩
    · cases z
    rcases hs j _ h2 with z | ⟨_, h2⟩
    · cases z
    exact c.dj i j q ds es h1 h2
  · rcases hs i _ h with z | ⟨_, h⟩
    · cases z
    obtain ⟨h1, h2⟩ := c.oh i q ds h
    refine ⟨?_, h2⟩
    rcases h0 q h1 with z | z
    · exact z
    · exact absurd z h2
theorem Gh.unall (g : Gh F M2 H2 p qs) (c : Ctx (F.at M2 H2) M σ H δ) : Ctx F M σ H (List.replicate δ.length .un) :=
  g.back c (by simp) fun i x h => .inl (by
    rw [List.getElem?_replicate] at h
    split at h
    · exact (Option.some.inj h).symm
    · cases h)
theorem okAll {i : Nat} (h : (δ.set i .un).all okS = true) : ∀ (j : Nat) (x : SD), (δ.set i .un)[j]? = some x → x = .un ∨ (okS x = true ∧ δ[j]? = some x) := fun j x hx => by
  have ok := List.all_eq_true.mp h x (List.mem_of_getElem? hx)
  rcases set_key hx with ⟨_, rfl, _⟩ | ⟨_, hx⟩
  · exact .inl rfl
  · exact .inr ⟨ok, hx⟩
end
/-- statements from the later frame on, whose ends lie in the first frame -/
def Do2 (F : Fm) (M2 : Addr → Bool) (H2 : Hp) (ts : TS) (δ : List SD) (P : PD) : Prop := ∀ M σ H (E : Ends), Ctx (F.at M2 H2) M σ H δ →
  (∀ M' σ' H' δ', P.nx δ' → Ctx F M' σ' H' δ' → Same (hd M H) (hd M' H') → E.nx σ' H') →
  (∀ v d M' σ' H' δ', P.rt d → Ctx F M' σ' H' δ' → Same (hd M H) (hd M' H') → Rep F.K (hd M' H') v d → E.rt v H') →
  (∀ M' σ' H' δ', P.bk δ' → Ctx F M' σ' H' δ' → Same (hd M H) (hd M' H') → E.bk σ' H') →
  (∀ M' σ' H' δ', P.ct δ' → Ctx F M' σ' H' δ' → Same (hd M H) (hd M' H') → E.ct σ' H') → ts E σ H
section
variable {F : Fm} {M2 : Addr → Bool} {H2 : Hp} {δ : List SD} {p : Addr} {qs : List (Addr × List D)} {t u : TS} {R : PD} {te : TE} {P : D → Prop}
theorem d2_seq (g : Gh F M2 H2 p qs) (h : Do (F.at M2 H2) t δ { nx := fun δ' => Do2 F M2 H2 u δ' R, rt := R.rt }) : Do2 F M2 H2 (tSeq t u) δ R := fun M σ H E c a b k d =>
  h M σ H { E with nx := u E } c (fun M' σ' H' δ' pd c' s => pd M' σ' H' E c' (fun M3 σ3 H3 δ3 p3 c3 s3 => a M3 σ3 H3 δ3 p3 c3 (s.trans s3)) (fun v x M3 σ3 H3 δ3 p3 c3 s3 => b v x M3 σ3 H3 δ3 p3 c3 (s.trans s3)) (fun M3 σ3 H3 δ3 p3 c3 s3 => k M3 σ3 H3 δ3 p3 c3 (s.trans s3)) (fun M3 σ3 H3 δ3 p3 c3 s3 => d M3 σ3 H3 δ3 p3 c3 (s.trans s3)))
    (fun v x M' σ' H' δ' pd c' s r => b v x M' σ' H' _ pd (g.unall c') s r) (fun _ _ _ _ z => z.elim) (fun _ _ _ _ z => z.elim)
/-- an item is cleared, and nothing is told of the list from there on -/
theorem d2_clear {i : Nat} {q : Addr} {es : List D} {rs : List (Addr × List D)} (g : Gh F M2 H2 p ((q, es) :: rs)) (hi : δ[i]? = some (.oll p ((q, es) :: rs))) (ok : (δ.set i .un).all okS = true) (h : Do F u (δ.set i .un) R) :
    Do2 F M2 H2 (tSeq (tDrop (tBM0 F.K "list" rClear (tOp (rIxL F.K) (tVar i) (tC (.int 0))))) u) δ R := fun M σ H E c a b k d => by
  obtain ⟨s, h1, hs, l1, l2, l3⟩ := c.sl i _ hi
  subst hs
  obtain ⟨us, h4, r4⟩ := l3 (q, es) (by simp)
  have mq := l1 q (by simp)
  have nq := g.nw q (by simp)
  refine ⟨_, h1, p, _, 0, .ref q, rfl, rfl, SqL.of l2, atI_nat' (by decide) (by simp), .inl ⟨rfl, us, SqL.of h4⟩, q, us, rfl, rfl, h4, ?_⟩
  have c2 := g.back c (δ' := δ.set i .un) (List.length_set ..) (okAll ok)
  have no : ∀ (j : Nat) (fs : OD), (δ.set i .un)[j]? ≠ some (.own q fs) := fun j fs hj => by
    rcases set_key hj with ⟨_, z, _⟩ | ⟨_, hj⟩
    · cases z
    · exact mq.2.2 (c.oh j q fs hj).1
  have c3 := c2.poke (ys := .lst []) mq.1 h4 nq.2.1 nq.2.2 no
  have e : hd M (upd H q (.lst [])) = hd M H := hd_upd mq.1
  refine h M σ _ E c3 (fun M3 σ3 H3 δ3 p3 c3 s3 => a M3 σ3 H3 δ3 p3 c3 (by rw [e] at s3; exact s3)) (fun v x M3 σ3 H3 δ3 p3 c3 s3 => b v x M3 σ3 H3 δ3 p3 c3 (by rw [e] at s3; exact s3)) (fun M3 σ3 H3 δ3 p3 c3 s3 => k M3 σ3 H3 δ3 p3 c3 (by rw [e] at s3; exact s3)) (fun M3 σ3 H3 δ3 p3 c3 s3 => d M3 σ3 H3 δ3 p3 c3 (by rw [e] at s3; exact s3))
/-- the list lent to an expression that comes to a truth -/
theorem ev_lend {i : Nat} (g : Gh F M2 H2 p qs) (hi : δ[i]? = some (.oll p qs)) (ok : (δ.set i .un).all okS = true) (h : Ev (F.at M2 H2) te (δ.set i (.dat (.lst (qs.map fun q => .lst q.2)))) fun d => ∃ b, d = .bl b ∧ P (.bl b)) : Ev (F.at M2 H2) te δ P := fun M σ H Q c q => by
  obtain ⟨s, h1, hs, l1, l2, l3⟩ := c.sl i _ hi
  subst hs
  let M3 : Addr → Bool := fun a => if a ∈ p :: qs.map Prod.fst then false else M a
  have le : ∀ a, M3 a = true → M a = true := fun a m => by
    show M a = true
    simp only [M3] at m
    split at m
    · cases m
    · exact m
  have m3 : ∀ a ∈ p :: qs.map Prod.fst, M3 a = false := fun a ha => if_pos ha
  have ne : ∀ a, a ∉ p :: qs.map Prod.fst → M3 a = M a := fun a ha => if_neg ha
  have s3 : Same (hd M H) (hd M3 H) := same_hd_le le
  have hil : i < σ.length := (List.getElem?_eq_some_iff.mp h1).1
  have c3 : Ctx (F.at M2 H2) M3 σ H (δ.set i (.dat (.lst (qs.map fun q => .lst q.2)))) := by
    refine ⟨fun a m => c.al a (le a m), c.al0, fun a m => ?_, c.fr, ⟨c.bg.1, fun t ht => ⟨(c.bg.2 t ht).1, (c.bg.2 t ht).2.1, fun a φ m => (c.bg.2 t ht).2.2 a φ (le a m)⟩⟩, by rw [List.length_set]; exact c.ln, fun j x hx => ?_, fun j k r ds es g1 g2 => ?_, fun j r ds hj => ?_⟩
    · have : a ∉ p :: qs.map Prod.fst := fun ha => by
        have := (g.nw a ha).1
        have m : M2 a = true := m
        rw [m] at this
        cases this
      rw [ne a this]
      exact c.m0 a m
    · rcases set_key hx with ⟨rfl, rfl, hl⟩ | ⟨hj, hx⟩
      · refine ⟨_, h1, .ref p, rfl, .lst (hd_at (m3 p (by simp)) l2) ?_⟩
        have key : ∀ rs : List (Addr × List D), (∀ r ∈ rs, r ∈ qs) → RepL F.K (hd M3 H) (rs.map fun q => .ref q.1) (rs.map fun q => .lst q.2) := fun rs => by
          induction rs with
          | nil => intro _; exact .nil
          | cons r rs ih =>
            intro hr
            obtain ⟨us, h4, r4⟩ := l3 r (hr r (by simp))
            exact .cons (.lst (hd_at (m3 r.1 (List.mem_cons_of_mem _ (List.mem_map_of_mem (hr r (by simp))))) h4) (r4.mono s3)) (ih fun x hx => hr x (List.mem_cons_of_mem _ hx))
        exact key qs fun r h => h
      · obtain ⟨s, g1, g2⟩ := c.sl j x hx
        refine ⟨s, g1, ?_⟩
        cases x with
        | un => trivial
        | dat d =>
          obtain ⟨v, e, r⟩ := g2
          exact ⟨v, e, r.mono s3⟩
        | own r ds =>
          obtain ⟨e, m, us, h5, r5⟩ := g2
          refine ⟨e, ?_, us, h5, r5.mono s3⟩
          rw [ne r fun hr => (l1 r hr).2.2 (c.oh j r ds hx).1]
          exact m
        | bag => exact g2
        | sq ds =>
          obtain ⟨r, vs, k1, k2, k3, k4⟩ := g2
          exact ⟨r, vs, k1, k2, k3, k4.mono s3⟩
        | sl ds =>
          obtain ⟨r, vs, k1, k2, k3, k4⟩ := g2
          exact ⟨r, vs, k1, k2, k3, k4.mono s3⟩
        | oll r rs =>
          have hx' : (δ.set i .un)[j]? = some (.oll r rs) := by rw [List.getElem?_set_ne hj]; exact hx
          have := List.all_eq_true.mp ok _ (List.mem_of_getElem? hx')
          cases this
    · rcases set_key g1 with ⟨_, z, _⟩ | ⟨_, g1⟩
      · cases z
      rcases set_key g2 with ⟨_, z, _⟩ | ⟨_, g2⟩
      · cases z
      exact c.dj j k r ds es g1 g2
    · rcases set_key hj with ⟨_, z, _⟩ | ⟨_, hj⟩
      · cases z
      exact c.oh j r ds hj
  refine h M3 σ H _ c3 fun v d H1 ⟨b, e, pd⟩ c1 e1 r1 => ?_
  subst e
  refine q v (.bl b) H1 pd (c.stepG e1 ⟨c1.bg.1, fun t ht => ⟨(c1.bg.2 t ht).1, (c1.bg.2 t ht).2.1, fun a φ m z => ?_⟩⟩) e1 (by cases r1; exact .bl b)
  by_cases ha : a ∈ p :: qs.map Prod.fst
  · rcases List.mem_cons.mp ha with rfl | ha'
    · have := e1 _ _ (l1 a ha).2.1 l2
      rw [this] at z
      cases z
    · obtain ⟨r, hr, rfl⟩ := List.mem_map.mp ha'
      obtain ⟨us, h4, _⟩ := l3 r hr
      have := e1 _ _ (l1 r.1 ha).2.1 h4
      rw [this] at z
      cases z
  · exact (c1.bg.2 t ht).2.2 a φ (by rw [ne a ha]; exact m) z
end
/-! ### new lists, side by side -/
/-- what is hidden behind is what was, and the new ones -/
structure News (F : Fm) (M : Addr → Bool) (H : Hp) (δ : List SD) (M' : Addr → Bool) (H' : Hp) (qs : List (Addr × List D)) : Prop where
  le : ∀ a, M a = true → M' a = true
  ge : ∀ a, M' a = true → M a = true ∨ a ∈ qs.map Prod.fst
  nw : ∀ q ∈ qs, M' q.1 = true ∧ H q.1 = none ∧ F.H0 q.1 = none ∧ ¬ F.mv q.1 ∧ ∃ us, H' q.1 = some (.lst us) ∧ RepL F.K (hd M' H') us q.2
  nd : (qs.map Prod.fst).Nodup
def EvAN (F : Fm) (ta : TA) (δ : List SD) (P : List (List D) → Prop) : Prop := ∀ M σ H (Q : List V → Hp → Prop), Ctx F M σ H δ →
  (∀ qs M' H', P (qs.map Prod.snd) → Ctx F M' σ H' δ → News F M H δ M' H' qs → StepB F.mv H H' → Q (qs.map fun q => .ref q.1) H') → ta σ H Q
section
variable {F : Fm} {δ : List SD} {te : TE} {ta tr : TA} {u : TS} {R : PD} {P : List (List D) → Prop}
theorem ean_nil (p : P []) : EvAN F tNil δ P := fun M σ H Q c q => q [] M H p c ⟨fun _ h => h, fun _ h => .inl h, (fun _ h => nomatch h), List.nodup_nil⟩ (StepB.refl _ _)
theorem ean_cons (h : EvN F te δ fun ds => EvAN F tr δ fun dss => P (ds :: dss)) : EvAN F (tCons te tr) δ P := fun M σ H Q c q =>
  h M σ H _ c fun p vs ds H1 pd c1 hp h0 hb no e1 hl r => pd (hid M p) σ H1 _ c1 fun qs M' H' p2 c2 n e2 => by
    have k : StepB F.mv H H' := e1.trans e2
    have hp' : H' p = some (.lst vs) := e2 p _ hb hl
    have nq : ∀ q ∈ qs, q.1 ≠ p := fun q hq e => by
      have := (n.nw q hq).2.1
      rw [e, hl] at this
      cases this
    have s : Same (hd (hid M p) H1) (hd M' H') := fun a o ha => by
      obtain ⟨m, h1⟩ := hd_of ha
      have h2 := (hd_of (hd_step c1 e2 _ _ ha)).2
      refine hd_at ?_ h2
      cases z : M' a with
      | false => rfl
      | true =>
        rcases n.ge a z with z | z
        · rw [m] at z
          cases z
        · obtain ⟨q, hq, rfl⟩ := List.mem_map.mp z
          have := (n.nw q hq).2.1
          rw [h1] at this
          cases this
    refine q ((p, ds) :: qs) M' H' p2 c2 ⟨fun a m => n.le a (hid_le a m), fun a m => ?_, fun x hx => ?_, ?_⟩ k
    · rcases n.ge a m with z | z
      · by_cases e : a = p
        · subst e
          exact .inr (by simp)
        · rw [hid_ne e] at z
          exact .inl z
      · exact .inr (List.mem_cons_of_mem _ z)
    · rcases List.mem_cons.mp hx with rfl | hx
      · exact ⟨n.le _ hid_same, hp, h0, hb, vs, hp', r.mono s⟩
      · obtain ⟨a1, a2, a3, a4, a5⟩ := n.nw x hx
        refine ⟨a1, ?_, a3, a4, a5⟩
        cases z : H x.1 with
        | none => rfl
        | some o =>
          have := e1 x.1 o a4 z
          rw [a2] at this
          cases this
    · rw [List.map_cons, List.nodup_cons]
      refine ⟨fun h => ?_, n.nd⟩
      obtain ⟨x, hx, e⟩ := List.mem_map.mp h
      exact nq x hx e
/-- a slot takes a new list of new lists -/
theorem do_oll {i : Nat} (okd : δ.all okN = true) (h : EvAN F ta δ fun dss => dss.length ≤ 100000 ∧ ∀ M2 H2 p qs, Gh F M2 H2 p qs → qs.map Prod.snd = dss → Do2 F M2 H2 u (δ.set i (.oll p qs)) R) : Do F (tSeq (tAsg (tLst ta) (gName i)) u) δ R := fun M σ H E c a b k d => by
  refine h M σ H _ c fun qs M' H1 pd c1 n e1 => ?_
  refine ⟨by have := pd.1; rw [List.length_map] at this ⊢; exact sz_of this, fun p hp => ?_⟩
  have c2 := c1.hide hp (o := .lst (qs.map fun q => .ref q.1))
  have mp1 : M' p = false := al_none c1.al hp
  have hpH : H p = none := by
    cases z : H p with
    | none => rfl
    | some o =>
      have := e1 p o (c1.nob hp) z
      rw [hp] at this
      cases this
  have s1 : Same H1 (upd H1 p (.lst (qs.map fun q => .ref q.1))) := same_new hp
  have kk : StepB F.mv H (upd H1 p (.lst (qs.map fun q => .ref q.1))) := e1.trans (StepB.of s1)
  have fresh : ∀ x ∈ p :: qs.map Prod.fst, M x = false ∧ F.H0 x = none ∧ ¬ F.mv x ∧ H x = none := fun x hx => by
    rcases List.mem_cons.mp hx with rfl | hx
    · exact ⟨al_none c.al hpH, c1.h0 hp, c1.nob hp, hpH⟩
    · obtain ⟨q, hq, rfl⟩ := List.mem_map.mp hx
      obtain ⟨_, a2, a3, a4, _⟩ := n.nw q hq
      exact ⟨al_none c.al a2, a3, a4, a2⟩
  generalize hH2 : upd H1 p (.lst (qs.map fun q => .ref q.1)) = H2 at c2 s1 kk
  have hp2 : H2 p = some (.lst (qs.map fun q => .ref q.1)) := by rw [← hH2]; exact upd_same
  have g : Gh F M H2 p qs := by
    refine ⟨c.al0, c.m0, c.fr.trans kk, ⟨fun b z => ⟨(c.bg.1 b z).1, (c.bg.1 b z).2.2⟩, fun t ht => (c.bg.2 t ht).1⟩, fun x hx => ⟨(fresh x hx).1, (fresh x hx).2.1, (fresh x hx).2.2.1⟩, ?_⟩
    rw [List.nodup_cons]
    refine ⟨fun hx => ?_, n.nd⟩
    obtain ⟨q, hq, e⟩ := List.mem_map.mp hx
    have := (n.nw q hq).1
    rw [e, mp1] at this
    cases this
  have sv : Same (hd M H) (hd (hid M' p) H2) := fun x o hx => by
    obtain ⟨m, h1⟩ := hd_of hx
    have h2 := (hd_of (hd_step c kk _ _ hx)).2
    have np : x ≠ p := ne_of_none h1 hpH
    refine hd_at ?_ h2
    rw [hid_ne np]
    cases z : M' x with
    | false => rfl
    | true =>
      rcases n.ge x z with z | z
      · rw [m] at z
        cases z
      · obtain ⟨q, hq, rfl⟩ := List.mem_map.mp z
        have := (n.nw q hq).2.1
        rw [h1] at this
        cases this
  have mle : ∀ x, M x = true → hid M' p x = true := fun x m => hid_le x (n.le x m)
  have c3 : Ctx (F.at M H2) (hid M' p) (σ.set i (some (.ref p))) H2 (δ.set i (.oll p qs)) := by
    refine ⟨c2.al, fun x m => c2.al x (mle x m), mle, StepB.refl _ _, ⟨fun b z => ⟨c.m0 b (c.bg.1 b z).1, (c2.bg.1 b z).2.1, ?_⟩, fun t ht => ⟨c.m0 _ (c.bg.2 t ht).1, (c2.bg.2 t ht).2⟩⟩, by rw [List.length_set, List.length_set, c.ln], fun j x hx => ?_, fun j l r ds es g1 g2 => ?_, fun j r ds hj => ?_⟩
    · obtain ⟨_, ⟨ns, k0, z1, z2, z3, q1, q2, q3, q4⟩, _⟩ := c2.bg.1 b z
      exact ⟨_, q3⟩
    · rcases set_key hx with ⟨rfl, rfl, hl⟩ | ⟨hj, hx⟩
      · refine ⟨_, by rw [List.getElem?_set_self (by rw [c.ln]; exact hl)], rfl, fun x hx => ?_, hp2, fun q hq => ?_⟩
        · have fx := fresh x hx
          rcases List.mem_cons.mp hx with rfl | hx
          · exact ⟨hid_same, fx.2.2.1, by show H2 _ ≠ none; rw [hp2]; exact fun h => nomatch h⟩
          · obtain ⟨q, hq, rfl⟩ := List.mem_map.mp hx
            obtain ⟨a1, _, _, _, us, a5, _⟩ := n.nw q hq
            exact ⟨hid_le _ a1, fx.2.2.1, by show H2 _ ≠ none; rw [s1 _ _ a5]; exact fun h => nomatch h⟩
        · obtain ⟨_, _, _, _, us, a5, a6⟩ := n.nw q hq
          refine ⟨us, s1 _ _ a5, a6.mono fun y o hy => ?_⟩
          obtain ⟨m, h1⟩ := hd_of hy
          exact hd_at (by rw [hid_ne (ne_of_none h1 hp)]; exact m) (s1 _ _ h1)
      · rw [List.getElem?_set_ne hj]
        obtain ⟨s, g1, g2⟩ := c2.sl j x hx
        refine ⟨s, g1, ?_⟩
        have ok := List.all_eq_true.mp okd x (List.mem_of_getElem? hx)
        cases x with
        | un => trivial
        | dat d => exact g2
        | bag => exact g2
        | own r ds => cases ok
        | sq ds => cases ok
        | sl ds => cases ok
        | oll r rs => cases ok
    · rcases set_key g1 with ⟨_, z, _⟩ | ⟨_, g1⟩
      · cases z
      have := List.all_eq_true.mp okd _ (List.mem_of_getElem? g1)
      cases this
    · rcases set_key hj with ⟨_, z, _⟩ | ⟨_, hj⟩
      · cases z
      have := List.all_eq_true.mp okd _ (List.mem_of_getElem? hj)
      cases this
  exact pd.2 M H2 p qs g rfl (hid M' p) _ H2 E c3 (fun M3 σ3 H3 δ3 p3 c3 s3 => a M3 σ3 H3 δ3 p3 c3 (sv.trans s3)) (fun v x M3 σ3 H3 δ3 p3 c3 s3 => b v x M3 σ3 H3 δ3 p3 c3 (sv.trans s3)) (fun M3 σ3 H3 δ3 p3 c3 s3 => k M3 σ3 H3 δ3 p3 c3 (sv.trans s3)) (fun M3 σ3 H3 δ3 p3 c3 s3 => d M3 σ3 H3 δ3 p3 c3 (sv.trans s3))
end
end Pf

set_option maxHeartbeats 16000000
namespace Pf
open PySem L2 PfL RZ
def top (i : Nat) : Stmt := PySem.Challenge.pw_partfirsts_k54_groups_told.main.body.getD i (.Pass ⟨0, 0, 0, 0⟩)
abbrev s_is_name : Stmt := top 17
abbrev s_is_whole : Stmt := top 18
abbrev s_is_number : Stmt := top 19
abbrev s_check_size : Stmt := top 35
abbrev s__is_pair : Stmt := top 41
abbrev s__are_groups : Stmt := top 42
abbrev s__check_groups : Stmt := top 43
abbrev s__check_ask : Stmt := top 44
abbrev s__check_way : Stmt := top 45
abbrev s__joined : Stmt := top 46
abbrev s__first_totals : Stmt := top 47
abbrev s_true_first : Stmt := top 48
abbrev s_told_first : Stmt := top 49
abbrev s_open : Stmt := top 51
abbrev s_draw : Stmt := top 52
abbrev s_of : Stmt := top 53
abbrev s_mixed : Stmt := top 54
abbrev s_like : Stmt := top 55
abbrev s_names : Stmt := top 56
abbrev s_group_parts : Stmt := top 57
abbrev s_total : Stmt := top 58
abbrev s_firsts : Stmt := top 59
abbrev s_law : Stmt := top 60
abbrev N_is_name : List Str := ["value", "sign"]
theorem sc_is_name : FnScope N_is_name ["value"] (defScope s_is_name) := ⟨rfl, rfl, rfl, by decide +kernel, rfl, by decide +kernel, by decide +kernel⟩
abbrev N_is_whole : List Str := ["value"]
theorem sc_is_whole : FnScope N_is_whole ["value"] (defScope s_is_whole) := ⟨rfl, rfl, rfl, by decide +kernel, rfl, by decide +kernel, by decide +kernel⟩
abbrev N_is_number : List Str := ["value", "least", "most"]
theorem sc_is_number : FnScope N_is_number ["value", "least", "most"] (defScope s_is_number) := ⟨rfl, rfl, rfl, by decide +kernel, rfl, by decide +kernel, by decide +kernel⟩
abbrev N_check_size : List Str := ["size"]
theorem sc_check_size : FnScope N_check_size ["size"] (defScope s_check_size) := ⟨rfl, rfl, rfl, by decide +kernel, rfl, by decide +kernel, by decide +kernel⟩
abbrev N__is_pair : List Str := ["value"]
theorem sc__is_pair : FnScope N__is_pair ["value"] (defScope s__is_pair) := ⟨rfl, rfl, rfl, by decide +kernel, rfl, by decide +kernel, by decide +kernel⟩
abbrev N__are_groups : List Str := ["value", "pair"]
theorem sc__are_groups : FnScope N__are_groups ["value"] (defScope s__are_groups) := ⟨rfl, rfl, rfl, by decide +kernel, rfl, by decide +kernel, by decide +kernel⟩
abbrev N__check_groups : List Str := ["parts", "at", "part"]
theorem sc__check_groups : FnScope N__check_groups ["parts"] (defScope s__check_groups) := ⟨rfl, rfl, rfl, by decide +kernel, rfl, by decide +kernel, by decide +kernel⟩
abbrev N__check_ask : List Str := ["ask"]
theorem sc__check_ask : FnScope N__check_ask ["ask"] (defScope s__check_ask) := ⟨rfl, rfl, rfl, by decide +kernel, rfl, by decide +kernel, by decide +kernel⟩
abbrev N__check_way : List Str := ["way"]
theorem sc__check_way : FnScope N__check_way ["way"] (defScope s__check_way) := ⟨rfl, rfl, rfl, by decide +kernel, rfl, by decide +kernel, by decide +kernel⟩
abbrev N__joined : List Str := ["one", "other", "way"]
theorem sc__joined : FnScope N__joined ["one", "other", "way"] (defScope s__joined) := ⟨rfl, rfl, rfl, by decide +kernel, rfl, by decide +kernel, by decide +kernel⟩
abbrev N__first_totals : List Str := ["parts", "size", "way", "totals", "part", "value", "name", "total"]
theorem sc__first_totals : FnScope N__first_totals ["parts", "size", "way"] (defScope s__first_totals) := ⟨rfl, rfl, rfl, by decide +kernel, rfl, by decide +kernel, by decide +kernel⟩
abbrev N_true_first : List Str := ["parts", "size", "way"]
theorem sc_true_first : FnScope N_true_first ["parts", "size", "way"] (defScope s_true_first) := ⟨rfl, rfl, rfl, by decide +kernel, rfl, by decide +kernel, by decide +kernel⟩
abbrev N_told_first : List Str := ["parts", "ask", "size", "way", "part"]
theorem sc_told_first : FnScope N_told_first ["parts", "ask", "size", "way"] (defScope s_told_first) := ⟨rfl, rfl, rfl, by decide +kernel, rfl, by decide +kernel, by decide +kernel⟩
abbrev N_open : List Str := ["_law_script"]
theorem sc_open : FnScope N_open ["_law_script"] (defScope s_open) := ⟨rfl, rfl, rfl, by decide +kernel, rfl, by decide +kernel, by decide +kernel⟩
abbrev N_draw : List Str := ["_law_bag", "_law_many", "_law_cell", "_law_digit", "_law_seed"]
theorem sc_draw : FnScope N_draw ["_law_bag", "_law_many"] (defScope s_draw) := ⟨rfl, rfl, rfl, by decide +kernel, rfl, by decide +kernel, by decide +kernel⟩
abbrev N_of : List Str := ["_law_bag", "_law_things"]
theorem sc_of : FnScope N_of ["_law_bag", "_law_things"] (defScope s_of) := ⟨rfl, rfl, rfl, by decide +kernel, rfl, by decide +kernel, by decide +kernel⟩
abbrev N_mixed : List Str := ["_law_bag", "_law_things", "_law_found", "_law_thing"]
theorem sc_mixed : FnScope N_mixed ["_law_bag", "_law_things"] (defScope s_mixed) := ⟨rfl, rfl, rfl, by decide +kernel, rfl, by decide +kernel, by decide +kernel⟩
abbrev N_like : List Str := ["_law_found", "_law_due", "_law_one", "_law_other"]
theorem sc_like : FnScope N_like ["_law_found", "_law_due"] (defScope s_like) := ⟨rfl, rfl, rfl, by decide +kernel, rfl, by decide +kernel, by decide +kernel⟩
abbrev N_names : List Str := ["_law_bag", "_law_many", "_law_abc", "_law_stem", "_law_at", "_law_head", "_law_k"]
theorem sc_names : FnScope N_names ["_law_bag", "_law_many"] (defScope s_names) := ⟨rfl, rfl, rfl, by decide +kernel, rfl, by decide +kernel, by decide +kernel⟩
abbrev N_group_parts : List Str := ["_law_bag", "_law_names_here", "_law_parts_z", "_law_base", "_law_k", "_law_part", "_law_name"]
theorem sc_group_parts : FnScope N_group_parts ["_law_bag"] (defScope s_group_parts) := ⟨rfl, rfl, rfl, by decide +kernel, rfl, by decide +kernel, by decide +kernel⟩
abbrev N_total : List Str := ["_law_some", "_law_way_z"]
theorem sc_total : FnScope N_total ["_law_some", "_law_way_z"] (defScope s_total) := ⟨rfl, rfl, rfl, by decide +kernel, rfl, by decide +kernel, by decide +kernel⟩
abbrev N_firsts : List Str := ["_law_parts_z", "_law_size_z", "_law_way_z", "_law_names_here", "_law_found", "_law_part", "_law_name", "_law_some", "_law_pair"]
theorem sc_firsts : FnScope N_firsts ["_law_parts_z", "_law_size_z", "_law_way_z"] (defScope s_firsts) := ⟨rfl, rfl, rfl, by decide +kernel, rfl, by decide +kernel, by decide +kernel⟩
abbrev N_law : List Str := ["_law_script", "_law_bag", "_law_turn", "_law_parts_z", "_law_ask_z", "_law_size_z", "_law_handed", "_law_way_z", "_law_found", "_law_cut", "_law_due", "_law_some", "_law_part"]
theorem sc_law : FnScope N_law ["_law_script"] (defScope s_law) := ⟨rfl, rfl, rfl, by decide +kernel, rfl, by decide +kernel, by decide +kernel⟩
set_option genInjectivity false in
set_option genSizeOfSpec false in
structure Txt (K : PySem.W.Frag) (mg : Str → Option Value) where
  f_is_name : Addr
  fd_is_name : FuncData
  F_is_name : Fun K "is_name" "is_name" s_is_name f_is_name fd_is_name
  g_is_name : mg "is_name" = some (.ref f_is_name)
  k_is_name : PySem.W.keepIn K (.ref f_is_name) = true
  bd_is_name : Binds K fd_is_name ["value"] []
  f_is_whole : Addr
  fd_is_whole : FuncData
  F_is_whole : Fun K "is_whole" "is_whole" s_is_whole f_is_whole fd_is_whole
  g_is_whole : mg "is_whole" = some (.ref f_is_whole)
  k_is_whole : PySem.W.keepIn K (.ref f_is_whole) = true
  bd_is_whole : Binds K fd_is_whole ["value"] []
  f_is_number : Addr
  fd_is_number : FuncData
  F_is_number : Fun K "is_number" "is_number" s_is_number f_is_number fd_is_number
  g_is_number : mg "is_number" = some (.ref f_is_number)
  k_is_number : PySem.W.keepIn K (.ref f_is_number) = true
  bd_is_number : Binds K fd_is_number ["value", "least", "most"] []
  f_check_size : Addr
  fd_check_size : FuncData
  F_check_size : Fun K "check_size" "check_size" s_check_size f_check_size fd_check_size
  g_check_size : mg "check_size" = some (.ref f_check_size)
  k_check_size : PySem.W.keepIn K (.ref f_check_size) = true
  bd_check_size : Binds K fd_check_size ["size"] []
  f__is_pair : Addr
  fd__is_pair : FuncData
  F__is_pair : Fun K "_is_pair" "_is_pair" s__is_pair f__is_pair fd__is_pair
  g__is_pair : mg "_is_pair" = some (.ref f__is_pair)
  k__is_pair : PySem.W.keepIn K (.ref f__is_pair) = true
  bd__is_pair : Binds K fd__is_pair ["value"] []
  f__are_groups : Addr
  fd__are_groups : FuncData
  F__are_groups : Fun K "_are_groups" "_are_groups" s__are_groups f__are_groups fd__are_groups
  g__are_groups : mg "_are_groups" = some (.ref f__are_groups)
  k__are_groups : PySem.W.keepIn K (.ref f__are_groups) = true
  bd__are_groups : Binds K fd__are_groups ["value"] []
  f__check_groups : Addr
  fd__check_groups : FuncData
  F__check_groups : Fun K "_check_groups" "_check_groups" s__check_groups f__check_groups fd__check_groups
  g__check_groups : mg "_check_groups" = some (.ref f__check_groups)
  k__check_groups : PySem.W.keepIn K (.ref f__check_groups) = true
  bd__check_groups : Binds K fd__check_groups ["parts"] []
  f__check_ask : Addr
  fd__check_ask : FuncData
  F__check_ask : Fun K "_check_ask" "_check_ask" s__check_ask f__check_ask fd__check_ask
  g__check_ask : mg "_check_ask" = some (.ref f__check_ask)
  k__check_ask : PySem.W.keepIn K (.ref f__check_ask) = true
  bd__check_ask : Binds K fd__check_ask ["ask"] []
  f__check_way : Addr
  fd__check_way : FuncData
  F__check_way : Fun K "_check_way" "_check_way" s__check_way f__check_way fd__check_way
  g__check_way : mg "_check_way" = some (.ref f__check_way)
  k__check_way : PySem.W.keepIn K (.ref f__check_way) = true
  bd__check_way : Binds K fd__check_way ["way"] []
  f__joined : Addr
  fd__joined : FuncData
  F__joined : Fun K "_joined" "_joined" s__joined f__joined fd__joined
  g__joined : mg "_joined" = some (.ref f__joined)
  k__joined : PySem.W.keepIn K (.ref f__joined) = true
  bd__joined : Binds K fd__joined ["one", "other", "way"] []
  f__first_totals : Addr
  fd__first_totals : FuncData
  F__first_totals : Fun K "_first_totals" "_first_totals" s__first_totals f__first_totals fd__first_totals
  g__first_totals : mg "_first_totals" = some (.ref f__first_totals)
  k__first_totals : PySem.W.keepIn K (.ref f__first_totals) = true
  bd__first_totals : Binds K fd__first_totals ["parts", "size", "way"] []
  f_true_first : Addr
  fd_true_first : FuncData
  F_true_first : Fun K "true_first" "true_first" s_true_first f_true_first fd_true_first
  g_true_first : mg "true_first" = some (.ref f_true_first)
  k_true_first : PySem.W.keepIn K (.ref f_true_first) = true
  bd_true_first : Binds K fd_true_first ["parts", "size", "way"] []
  f_told_first : Addr
  fd_told_first : FuncData
  F_told_first : Fun K "told_first" "told_first" s_told_first f_told_first fd_told_first
  g_told_first : mg "told_first" = some (.ref f_told_first)
  k_told_first : PySem.W.keepIn K (.ref f_told_first) = true
  bd_told_first : Binds K fd_told_first ["parts", "ask", "size", "way"] []
  f_open : Addr
  fd_open : FuncData
  F_open : Fun K "_law_open" "_law_open" s_open f_open fd_open
  g_open : mg "_law_open" = some (.ref f_open)
  k_open : PySem.W.keepIn K (.ref f_open) = true
  bd_open : Binds K fd_open ["_law_script"] []
  f_draw : Addr
  fd_draw : FuncData
  F_draw : Fun K "_law_draw" "_law_draw" s_draw f_draw fd_draw
  g_draw : mg "_law_draw" = some (.ref f_draw)
  k_draw : PySem.W.keepIn K (.ref f_draw) = true
  bd_draw : Binds K fd_draw ["_law_bag", "_law_many"] []
  f_of : Addr
  fd_of : FuncData
  F_of : Fun K "_law_of" "_law_of" s_of f_of fd_of
  g_of : mg "_law_of" = some (.ref f_of)
  k_of : PySem.W.keepIn K (.ref f_of) = true
  bd_of : Binds K fd_of ["_law_bag", "_law_things"] []
  f_mixed : Addr
  fd_mixed : FuncData
  F_mixed : Fun K "_law_mixed" "_law_mixed" s_mixed f_mixed fd_mixed
  g_mixed : mg "_law_mixed" = some (.ref f_mixed)
  k_mixed : PySem.W.keepIn K (.ref f_mixed) = true
  bd_mixed : Binds K fd_mixed ["_law_bag", "_law_things"] []
  f_like : Addr
  fd_like : FuncData
  F_like : Fun K "_law_like" "_law_like" s_like f_like fd_like
  g_like : mg "_law_like" = some (.ref f_like)
  k_like : PySem.W.keepIn K (.ref f_like) = true
  bd_like : Binds K fd_like ["_law_found", "_law_due"] []
  f_names : Addr
  fd_names : FuncData
  F_names : Fun K "_law_names" "_law_names" s_names f_names fd_names
  g_names : mg "_law_names" = some (.ref f_names)
  k_names : PySem.W.keepIn K (.ref f_names) = true
  bd_names : Binds K fd_names ["_law_bag", "_law_many"] []
  f_group_parts : Addr
  fd_group_parts : FuncData
  F_group_parts : Fun K "_law_group_parts" "_law_group_parts" s_group_parts f_group_parts fd_group_parts
  g_group_parts : mg "_law_group_parts" = some (.ref f_group_parts)
  k_group_parts : PySem.W.keepIn K (.ref f_group_parts) = true
  bd_group_parts : Binds K fd_group_parts ["_law_bag"] []
  f_total : Addr
  fd_total : FuncData
  F_total : Fun K "_law_total" "_law_total" s_total f_total fd_total
  g_total : mg "_law_total" = some (.ref f_total)
  k_total : PySem.W.keepIn K (.ref f_total) = true
  bd_total : Binds K fd_total ["_law_some", "_law_way_z"] []
  f_firsts : Addr
  fd_firsts : FuncData
  F_firsts : Fun K "_law_firsts" "_law_firsts" s_firsts f_firsts fd_firsts
  g_firsts : mg "_law_firsts" = some (.ref f_firsts)
  k_firsts : PySem.W.keepIn K (.ref f_firsts) = true
  bd_firsts : Binds K fd_firsts ["_law_parts_z", "_law_size_z", "_law_way_z"] []
  f_law : Addr
  fd_law : FuncData
  F_law : Fun K "law" "law" s_law f_law fd_law
  g_law : mg "law" = some (.ref f_law)
  k_law : PySem.W.keepIn K (.ref f_law) = true
  bd_law : Binds K fd_law ["_law_script"] []
  b_all : mg "all" = none
  b_bool : mg "bool" = none
  b_enumerate : mg "enumerate" = none
  b_int : mg "int" = none
  b_isinstance : mg "isinstance" = none
  b_len : mg "len" = none
  b_list : mg "list" = none
  b_max : mg "max" = none
  b_min : mg "min" = none
  b_range : mg "range" = none
  b_sorted : mg "sorted" = none
  b_str : mg "str" = none
  b_sum : mg "sum" = none
  b_tuple : mg "tuple" = none
  b_zip : mg "zip" = none
  t__MOST_SIZE : Tok
  g__MOST_SIZE : mg "_MOST_SIZE" = some (.int 9 t__MOST_SIZE)
  a_WAYS : Addr
  g_WAYS : mg "WAYS" = some (.ref a_WAYS)
  sq_WAYS : ∀ H, SqT K H a_WAYS [.str "least", .str "greatest", .str "sum"]
  c_Reader : Addr
  g_Reader : mg "Reader" = some (.ref c_Reader)
  cf_Reader : ClsF K c_Reader
  mc_Reader : Value
  cr_Reader : ClX.CRead K c_Reader mc_Reader
  cv_Reader_MOST_ASK : ∃ u, ClX.CVal K c_Reader mc_Reader "MOST_ASK" (.int 9) u

def gkb_told_first_way_size_ask_parts {α : Type} (us ws : List α) : List α := match us, ws with | [], [b0, b1, b2, b3] => [b3, b2, b1, b0] | _, _ => []
theorem kb_told_first_way_size_ask_parts {K : PySem.W.Frag} {mg : Str → Option Value} (T : Txt K mg) : KBinds K T.fd_told_first ["parts", "ask", "size", "way"] ["way", "size", "ask", "parts"] gkb_told_first_way_size_ask_parts gkb_told_first_way_size_ask_parts := by
  obtain ⟨oc, od, kV, doc, pm, an, cdv, ct, osl, hfd, lk, hcd⟩ := T.F_told_first.ex
  refine ⟨fun s us ws _ hl => ?_, fun {vs us zs ws} r rz => ?_⟩
  · rw [hfd]
    rcases us with _ | ⟨yu0, lu⟩ <;> rcases ws with _ | ⟨yw0, _ | ⟨yw1, _ | ⟨yw2, _ | ⟨yw3, _ | ⟨yw4, lw⟩⟩⟩⟩⟩ <;> first
      | (simp [gkb_told_first_way_size_ask_parts] at hl; done)
      | exact .of_eq rfl
  ·
    cases r with
    | nil =>
      cases rz with
      | nil => exact .nil
      | cons b0 rz =>
        cases rz with
        | nil => exact .nil
        | cons b1 rz =>
          cases rz with
          | nil => exact .nil
          | cons b2 rz =>
            cases rz with
            | nil => exact .nil
            | cons b3 rz =>
              cases rz with
              | nil => exact (.cons b3 (.cons b2 (.cons b1 (.cons b0 .nil))))
              | cons b4 rz => exact .nil
    | cons a0 r => exact .nil
theorem krkb_told_first_way_size_ask_parts (K : PySem.W.Frag) (H : Hp) (vs zs : List V) (ds es : List D) (r : RepL K H vs ds) (rz : RepL K H zs es) : RepL K H (gkb_told_first_way_size_ask_parts vs zs) (gkb_told_first_way_size_ask_parts ds es) := by
  cases r with
  | nil =>
    cases rz with
    | nil => exact .nil
    | cons b0 rz =>
      cases rz with
      | nil => exact .nil
      | cons b1 rz =>
        cases rz with
        | nil => exact .nil
        | cons b2 rz =>
          cases rz with
          | nil => exact .nil
          | cons b3 rz =>
            cases rz with
            | nil => exact (.cons b3 (.cons b2 (.cons b1 (.cons b0 .nil))))
            | cons b4 rz => exact .nil
  | cons a0 r => exact .nil
def gkb_true_first_way_size_parts {α : Type} (us ws : List α) : List α := match us, ws with | [], [b0, b1, b2] => [b2, b1, b0] | _, _ => []
theorem kb_true_first_way_size_parts {K : PySem.W.Frag} {mg : Str → Option Value} (T : Txt K mg) : KBinds K T.fd_true_first ["parts", "size", "way"] ["way", "size", "parts"] gkb_true_first_way_size_parts gkb_true_first_way_size_parts := by
  obtain ⟨oc, od, kV, doc, pm, an, cdv, ct, osl, hfd, lk, hcd⟩ := T.F_true_first.ex
  refine ⟨fun s us ws _ hl => ?_, fun {vs us zs ws} r rz => ?_⟩
  · rw [hfd]
    rcases us with _ | ⟨yu0, lu⟩ <;> rcases ws with _ | ⟨yw0, _ | ⟨yw1, _ | ⟨yw2, _ | ⟨yw3, lw⟩⟩⟩⟩ <;> first
      | (simp [gkb_true_first_way_size_parts] at hl; done)
      | exact .of_eq rfl
  ·
    cases r with
    | nil =>
      cases rz with
      | nil => exact .nil
      | cons b0 rz =>
        cases rz with
        | nil => exact .nil
        | cons b1 rz =>
          cases rz with
          | nil => exact .nil
          | cons b2 rz =>
            cases rz with
            | nil => exact (.cons b2 (.cons b1 (.cons b0 .nil)))
            | cons b3 rz => exact .nil
    | cons a0 r => exact .nil
theorem krkb_true_first_way_size_parts (K : PySem.W.Frag) (H : Hp) (vs zs : List V) (ds es : List D) (r : RepL K H vs ds) (rz : RepL K H zs es) : RepL K H (gkb_true_first_way_size_parts vs zs) (gkb_true_first_way_size_parts ds es) := by
  cases r with
  | nil =>
    cases rz with
    | nil => exact .nil
    | cons b0 rz =>
      cases rz with
      | nil => exact .nil
      | cons b1 rz =>
        cases rz with
        | nil => exact .nil
        | cons b2 rz =>
          cases rz with
          | nil => exact (.cons b2 (.cons b1 (.cons b0 .nil)))
          | cons b3 rz => exact .nil
  | cons a0 r => exact .nil

/-! ### the draws -/
theorem asg_cut {te : TE} {g : TG} {D : Ends} {σ : L2.St} {H : Hp} (h : ∀ G : V → Hp → Prop, G = (fun x H1 => g x σ H1 D.nx) → te σ H G) : tAsg te g D σ H := h _ rfl
theorem seq_in {t u : TS} {D : Ends} {σ : L2.St} {H : Hp} (h : t { D with nx := u D } σ H) : tSeq t u D σ H := h
theorem pm1 : (0 : Int) < 2147483587 := by decide
theorem pm2 : (0 : Int) < 2147483549 := by decide
theorem seq_cut {t u : TS} {D : Ends} {σ : L2.St} {H : Hp} (h : ∀ G : L2.St → Hp → Prop, G = u D → t { D with nx := G } σ H) : tSeq t u D σ H := h _ rfl
def preDraw : List D → Prop := fun ds => ∃ m : Int, ds = [.int m] ∧ 0 < m ∧ m < 1073741824
def postDraw : List D → D → Prop := fun ds d => ∃ m r : Int, ds = [.int m] ∧ d = .int r ∧ 0 ≤ r ∧ r < m
section
variable {K : PySem.W.Frag} {σ : L2.St} {H : Hp} {b c : Addr} {Q : VK} {i z s t : Int}
theorem bag_ix {xs : List V} {k : Int} {v : V} (h0 : σ[0]? = some (some (.ref b))) (hb : H b = some (.lst xs)) (hv : atI xs k = some v) (q : Q v H) : tOp (rIxL K) (tVar 0) (tC (.int k)) σ H Q :=
  ⟨_, h0, _, xs, k, v, rfl, rfl, SqL.of hb, hv, q⟩
theorem bag_set {xs : List V} {k : Int} {j : Nat} {v : V} {R : L2.St → Hp → Prop} (h0 : σ[0]? = some (some (.ref b))) (hb : H b = some (.lst xs)) (hj : ixN xs.length k = some j) (q : R σ (upd H b (.lst (xs.set j v)))) : gSub (tVar 0) (tC (.int k)) rSetL v σ H R :=
  ⟨_, h0, _, xs, k, j, rfl, rfl, hb, hj, q⟩
end
theorem ok_draw {P : Program} {w : World} {K : PySem.W.Frag} {mg : Str → Option Value} {base : Heap} (T : Txt K mg) : FnOk P w K mg base CX0 2 T.f_draw T.fd_draw ["_law_bag", "_law_many"] (spB K preDraw postDraw) := by
  refine T.F_draw.ok sc_draw (spB_len fun ds ⟨m, e, _⟩ => by rw [e]; rfl) (fun cdv A outer s H vs Q E hr h => ?_)
  refine ⟨_, (pss_cons (ps_if (PW.pt (pw_and (pt_cmpR op_eq (pe_ix (ixL K) (pv 0) pe_int (fun _ _ => rfl)) pe_int (nomark _)) (pw_and1 (pt_cmpR op_lt (pe_ix (ixL K) (pv 0) pe_int (fun _ _ => rfl)) (pe_callB (callLen K) (by rfl) T.b_len (by decide +kernel) (pa_cons (pe_ix (ixL K) (pv 0) pe_int (fun _ _ => rfl)) pa_nil)) (nomark _))))) (pss_cons (ps_set (i := 2) sc_draw.nd rfl (Or.inl rfl) (pe_ix (ixL K) (pe_ix (ixL K) (pv 0) pe_int (fun _ _ => rfl)) (pe_ix (ixL K) (pv 0) pe_int (fun _ _ => rfl)) (fun _ _ => rfl)))
      (pss_cons (ps_asg (pe_op op_add (pe_ix (ixL K) (pv 0) pe_int (fun _ _ => rfl)) pe_int) (pg_sub (pv 0) pe_int set_list))
      (pss_cons (ps_asg (pe_ifExp (pt_cmpR op_ge (pv 2) (pe_op op_pow pe_int pe_int) (nomark _)) (pv 2) pe_int) (pg_sub (pv 0) pe_int set_list))
      (pss_one (ps_asg (pe_op op_mod (pe_callTy call_int1 (by rfl) T.b_int (by decide +kernel) (pa_cons (pe_op op_add (pe_op op_add (pe_op op_mul (pe_ix (ixL K) (pv 0) pe_int (fun _ _ => rfl)) pe_int) (pe_op op_mul (pe_op op_mod (pe_callTy call_int1 (by rfl) T.b_int (by decide +kernel) (pa_cons (pv 2) pa_nil)) pe_int) pe_int)) pe_int) pa_nil)) pe_int) (pg_sub (pv 0) pe_int set_list)))))) pss_nil)
    (pss_cons (ps_if (pt_cmpR op_gt (pe_ix (ixL K) (pv 0) pe_int (fun _ _ => rfl)) pe_int (nomark _)) (pss_cons (ps_set (i := 3) sc_draw.nd rfl (Or.inl rfl) (pe_op op_mod (pe_callTy call_int1 (by rfl) T.b_int (by decide +kernel) (pa_cons (pe_ix (ixL K) (pv 0) pe_int (fun _ _ => rfl)) pa_nil)) (pv 1)))
      (pss_cons (ps_asg (pe_op op_fdiv (pe_ix (ixL K) (pv 0) pe_int (fun _ _ => rfl)) (pv 1)) (pg_sub (pv 0) pe_int set_list))
      (pss_one (ps_ret (pv 3))))) pss_nil)
    (pss_cons (ps_asg (pe_op op_add (pe_ix (ixL K) (pv 0) pe_int (fun _ _ => rfl)) pe_int) (pg_sub (pv 0) pe_int set_list))
    (pss_cons (ps_set (i := 4) sc_draw.nd rfl (Or.inl rfl) (pe_ix (ixL K) (pv 0) pe_int (fun _ _ => rfl)))
    (pss_cons (ps_asg (pe_op op_mod (pe_callTy call_int1 (by rfl) T.b_int (by decide +kernel) (pa_cons (pe_op op_add (pe_op op_add (pe_op op_add (pe_op op_mul (pv 4) (pv 4)) (pe_op op_mul pe_int (pv 4))) (pe_op op_mul pe_int (pe_ix (ixL K) (pv 0) pe_int (fun _ _ => rfl)))) pe_int) pa_nil)) pe_int) (pg_sub (pv 0) pe_int set_list))
    (pss_one (ps_ret (pe_op op_mod (pe_callTy call_int1 (by rfl) T.b_int (by decide +kernel) (pa_cons (pe_op op_add (pe_op op_add (pe_op op_fdiv (pe_ix (ixL K) (pv 0) pe_int (fun _ _ => rfl)) pe_int) (pe_op op_mul (pv 4) pe_int)) (pe_ix (ixL K) (pv 0) pe_int (fun _ _ => rfl))) pa_nil)) (pv 1))))))))), ?_⟩
  obtain ⟨M, b, c, ws, ds, rfl, al, mb, ba, r, ⟨m, rfl, m0, m1⟩, q⟩ := h
  cases r with
  | cons r1 r2 =>
  cases r1
  cases r2
  obtain ⟨ns, i, z, sd, t, hb, nc, hc, hi, hn, z0, s0, s1, t0⟩ := ba
  -- what is behind the first if
  refine seq_cut fun G hG => ?_
  have rest : ∀ (x : Option V) (H1 : Hp) (i' : Nat) (z' s' : Int), H1 b = some (.lst [.ref c, .int (i' : Nat), .int z', .int s', .int t]) → (∀ a, a ≠ b → H1 a = H a) → i' ≤ ns.length → 0 ≤ z' → 0 ≤ s' → s' < 2147483587 → G [some (.ref b), some (.int m), x, none, none] H1 := by
    subst hG
    intro x H1 i' z' s' hb1 hk hi' z0' s0' s1'
    have hfin : ∀ (H2 : Hp) (z2 s2 t2 r : Int), H2 b = some (.lst [.ref c, .int (i' : Nat), .int z2, .int s2, .int t2]) → (∀ a, a ≠ b → H2 a = H a) → 0 ≤ z2 → 0 ≤ s2 → s2 < 2147483587 → 0 ≤ t2 → 0 ≤ r → r < m → Q (.int r) H2 := by
      intro H2 z2 s2 t2 r hb2 hk2 a1 a2 a3 a4 a5 a6
      refine q (.int r) (.int r) H2 ⟨m, r, rfl, rfl, a5, a6⟩ (fun a o n h => ?_) ⟨ns, i', z2, s2, t2, hb2, nc, by rw [hk2 c nc]; exact hc, hi', hn, a1, a2, a3, a4⟩ (.int r)
      rw [hk2 a fun e => n (by rw [e])]
      exact h
    refine bag_ix (k := 2) rfl hb1 rfl ⟨_, _, rfl, rfl, _, rfl, ?_⟩
    refine ite2 (fun hz => ?_) (fun hz => ?_)
    · have hz' : 0 < z' := of_decide_eq_true hz
      refine bag_ix rfl hb1 rfl (.inl ⟨_, rfl, _, rfl, _, _, rfl, rfl, m0, ?_⟩)
      refine bag_ix rfl hb1 rfl ⟨_, rfl, _, _, rfl, rfl, ⟨m0, m1⟩, ?_⟩
      refine bag_set rfl hb1 rfl ?_
      refine ⟨_, rfl, ?_⟩
      refine hfin _ (z' / m) s' t (z' % m) upd_same (fun a n => by rw [upd_ne n]; exact hk a n) (Int.ediv_nonneg z0' (Int.le_of_lt m0)) s0' s1' t0 (Int.emod_nonneg _ (Int.ne_of_gt m0)) (Int.emod_lt_of_pos _ m0)
    · refine bag_ix rfl hb1 rfl ⟨_, _, rfl, rfl, ?_⟩
      refine bag_set rfl hb1 rfl ?_
      refine bag_ix rfl upd_same rfl ?_
      refine ⟨_, rfl, _, rfl, _, _, rfl, rfl, .inl ⟨by omega, by omega⟩, ?_⟩
      refine ⟨_, rfl, _, _, rfl, rfl, .inl ⟨by decide, by decide⟩, _, _, rfl, rfl, ?_⟩
      refine bag_ix rfl upd_same rfl ⟨_, _, rfl, rfl, .inl ⟨by decide, by decide⟩, _, _, rfl, rfl, ?_⟩
      refine ⟨_, _, rfl, rfl, .inl ⟨_, rfl, _, _, rfl, rfl, pm1, ?_⟩⟩
      refine bag_set rfl upd_same rfl ?_
      refine bag_ix rfl upd_same rfl ⟨_, _, rfl, rfl, ⟨by decide, by decide⟩, ?_⟩
      refine ⟨_, rfl, _, _, rfl, rfl, .inr ⟨by decide, by decide⟩, _, _, rfl, rfl, ?_⟩
      refine bag_ix rfl upd_same rfl ⟨_, _, rfl, rfl, .inl ⟨_, rfl, _, rfl, _, _, rfl, rfl, m0, ?_⟩⟩
      refine hfin _ z' _ (t + 1) _ upd_same (fun a n => by rw [upd_ne n, upd_ne n]; exact hk a n) z0' (Int.emod_nonneg _ (by decide)) (Int.emod_lt_of_pos _ pm1) (by omega) (Int.emod_nonneg _ (Int.ne_of_gt m0)) (Int.emod_lt_of_pos _ m0)
  refine bag_ix rfl hb rfl ⟨rfl, _, rfl, ?_⟩
  refine ite2 (fun hz => ?_) (fun hz => ?_)
  · refine bag_ix rfl hb rfl ?_
    refine bag_ix rfl hb rfl ⟨_, ns.length, rfl, .inl ⟨_, SqL.of hc, by rw [List.length_map]⟩, _, _, rfl, rfl, _, rfl, ?_⟩
    refine ite2 (fun hl => ?_) (fun hl => rest none H i z sd hb (fun a _ => rfl) hi z0 s0 s1)
    have hl' : i < ns.length := by
      have := of_decide_eq_true hl
      omega
    have hat : atI (ns.map V.int) (i : Int) = some (.int (ns[i])) := atI_nat (by simp [hl'])
    refine bag_ix rfl hb rfl ?_
    refine bag_ix rfl hb rfl ⟨_, _, _, _, rfl, rfl, SqL.of hc, hat, ?_⟩
    generalize ns[i] = cell
    refine bag_ix rfl hb rfl ⟨_, _, rfl, rfl, ?_⟩
    refine bag_set rfl hb rfl ?_
    dsimp only
    refine seq_in ?_
    refine asg_cut fun G2 hG2 => ?_
    have go : ∀ zz : Int, 0 ≤ zz → G2 (.int zz) (upd H b (.lst [.ref c, .int ((i : Int) + 1), .int z, .int sd, .int t])) := by
      subst hG2
      intro zz hzz
      refine bag_set rfl upd_same rfl ?_
      refine bag_ix rfl upd_same rfl ⟨_, _, rfl, rfl, .inr ⟨by decide, by decide⟩, ?_⟩
      refine ⟨_, rfl, .inl ⟨_, rfl, _, _, rfl, rfl, pm2, _, _, rfl, rfl, .inr ⟨by decide, by decide⟩, _, _, rfl, rfl, _, _, rfl, rfl, .inl ⟨_, rfl, _, _, rfl, rfl, pm1, ?_⟩⟩⟩
      refine bag_set rfl upd_same rfl ?_
      exact rest _ _ (i + 1) zz _ upd_same (fun a n => by rw [upd_ne n, upd_ne n, upd_ne n]) hl' hzz (Int.emod_nonneg _ (by decide)) (Int.emod_lt_of_pos _ pm1)
    refine ⟨_, rfl, _, _, rfl, rfl, ⟨by decide, by decide, by decide⟩, _, _, rfl, rfl, _, rfl, ?_⟩
    refine ite2 (fun hz => ?_) (fun hz => ?_)
    · refine ⟨_, rfl, ?_⟩
      refine go cell ?_
      have : (10 : Int) ^ Int.toNat 18 ≤ cell := of_decide_eq_true hz
      exact Int.le_trans (by decide) this
    · exact go 0 (Int.le_refl _)
  · exact rest none H i z sd hb (fun a _ => rfl) hi z0 s0 s1
local macro_rules | `(tactic| walk_at "ev") => `(tactic| first
  | ((with_reducible refine' ev_var ?h ?_); (case h => rfl))
  | with_reducible refine ev_int ?_
  | with_reducible refine ev_bl ?_
  | with_reducible refine ev_str ?_
  | with_reducible refine ev_non ?_
  | with_reducible refine ev_ty ?_
  | with_reducible refine ev_op ?_
  | with_reducible refine ev_un ?_
  | with_reducible refine ev_chain ?_
  | with_reducible refine ev_if ?_
  | with_reducible refine ev_and ?_
  | with_reducible refine ev_or ?_
  | with_reducible refine ev_not ?_
  | with_reducible refine ev_lst ?_
  | with_reducible refine ev_tup ?_
  | with_reducible refine ea_nil ?_
  | with_reducible refine ea_cons ?_
  | with_reducible refine ev_cb ?_
  | with_reducible refine et_test ?_
  | with_reducible refine et_B ?_
  | with_reducible refine et_and ?_
  | with_reducible refine et_or ?_
  | with_reducible refine et_not ?_
  | with_reducible refine et_yes ?_
  | with_reducible refine eo_none ?_
  | with_reducible refine eo_some ?_
  | with_reducible refine ev_slS ?_
  | with_reducible refine od_int ?_
  | with_reducible refine od_bl ?_
  | with_reducible refine od_eq_int ?_
  | with_reducible refine od_ne_int ?_
  | with_reducible refine od_eq_bl ?_
  | with_reducible refine od_ne_bl ?_
  | with_reducible refine od_eq_str ?_
  | with_reducible refine od_ne_str ?_
  | with_reducible refine od_leS ?_
  | with_reducible refine ud_isN ?_
  | with_reducible refine ud_notN ?_
  | with_reducible refine do_seq ?_
  | with_reducible refine do_set ?_
  | with_reducible refine do_ret ?_
  | with_reducible refine do_retN ?_
  | with_reducible refine do_if ?_
  | with_reducible refine do_next ?_
  | with_reducible refine tg_name ?_
  | with_reducible refine tgs_nil ?_
  | with_reducible refine tgs_cons ?_)
/-! ### one of some things -/
def atD (x : D) (i : Int) : Option D := match x with
  | .lst xs => atI xs i | .tup xs => atI xs i | .str z => (atI z.cps.toList i).map fun c => .str ⟨#[c]⟩ | _ => none
theorem od_ix {K : PySem.W.Frag} {P : D → Prop} {x d : D} {i : Int} (hz : ∀ z, x = .str z → z.length ≤ 100000) (h : atD x i = some d) (p : P d) : OpD K (rIx K) x (.int i) P := fun M H v w Q al r1 r2 q => by
  cases x with
  | lst xs => exact .inl (od_ixL h p M H v w Q al r1 r2 q)
  | tup xs => exact .inr (.inl (od_ixT h p M H v w Q al r1 r2 q))
  | str z =>
    cases e : atI z.cps.toList i with
    | none =>
      have h' : (atI z.cps.toList i).map (fun c => D.str ⟨#[c]⟩) = some d := h
      rw [e] at h'
      cases h'
    | some c =>
      have h' : (atI z.cps.toList i).map (fun c => D.str ⟨#[c]⟩) = some d := h
      rw [e] at h'
      cases h'
      exact .inr (.inr (od_ixS (hz z rfl) e p M H v w Q al r1 r2 q))
  | _ => cases h
theorem atD_some {x : D} {n : Nat} {i : Int} (h : lenD x = some n) (h0 : 0 ≤ i) (h1 : i < n) : ∃ d, atD x i = some d := by
  cases x with
  | lst xs =>
    cases h
    exact ⟨_, atI_nat' h0 (by omega)⟩
  | tup xs =>
    cases h
    exact ⟨_, atI_nat' h0 (by omega)⟩
  | str z =>
    cases h
    have h2 : i.toNat < z.cps.toList.length := by
      have : z.cps.toList.length = z.length := by simp [Str.length]
      omega
    refine ⟨.str ⟨#[z.cps.toList[i.toNat]]⟩, ?_⟩
    show (atI z.cps.toList i).map _ = some _
    rw [atI_nat' h0 h2]
    rfl
  | _ => cases h
def preOf : List D → Prop := fun ds => ∃ x n, ds = [x] ∧ lenD x = some n ∧ 0 < n ∧ n ≤ 100000
def postOf : List D → D → Prop := fun ds d => ∃ x n i, ds = [x] ∧ lenD x = some n ∧ 0 ≤ i ∧ i < (n : Int) ∧ atD x i = some d
theorem ok_of {P : Program} {w : World} {K : PySem.W.Frag} {mg : Str → Option Value} {base : Heap} (T : Txt K mg) : FnOk P w K mg base CX0 4 T.f_of T.fd_of ["_law_bag", "_law_things"] (spB K preOf postOf) := by
  refine T.F_of.ok sc_of (spB_len fun ds ⟨x, n, e, _⟩ => by rw [e]; rfl) (fun cdv A outer s H vs Q E hr h => ?_)
  refine ⟨_, (pss_one (ps_ret (pe_ix (ixA K) (pv 1) (pe_call (ok_draw T) (hr.mono (by decide)) rfl T.g_draw T.k_draw T.bd_draw .nil pass0 (pa_cons (pv 0) (pa_cons (pe_callB (callLen K) (by rfl) T.b_len (by decide +kernel) (pa_cons (pv 1) pa_nil)) pa_nil))) (fun _ _ => rfl)))), ?_⟩
  refine enterB h fun M b c ds pre _ => ?_
  obtain ⟨x, n, rfl, hl, n0, n1⟩ := pre
  refine do_ret ?_
  refine ev_op ?_
  refine ev_var rfl ?_
  refine ev_callB rfl rfl ?_
  refine ea_cons (ev_cb (ea_cons (ev_var rfl (ea_nil (cd_lenK hl n1 ?_)))))
  refine ea_nil ⟨⟨n, rfl, by omega, by omega⟩, fun d hd => ?_⟩
  obtain ⟨m, r, e, rfl, r0, r1⟩ := hd
  cases e
  obtain ⟨d, hd⟩ := atD_some hl r0 r1
  refine od_ix (fun z e => ?_) hd ⟨x, n, r, rfl, hl, r0, r1, hd⟩
  subst e
  cases hl
  exact n1

/-! ### equal and of the same kinds -/
mutual
def likeD : D → D → Bool
  | .lst xs, .lst ys => likeL xs ys
  | .tup xs, .tup ys => likeL xs ys
  | .non, .non => true
  | .bl a, .bl b => a == b
  | .int a, .int b => a == b
  | .str a, .str b => decide (a = b)
  | _, _ => false
def likeL : List D → List D → Bool
  | [], [] => true
  | x :: xs, y :: ys => likeD x y && likeL xs ys
  | _, _ => false
end
mutual
def dep : D → Nat
  | .lst xs => depL xs + 1
  | .tup xs => depL xs + 1
  | _ => 0
def depL : List D → Nat
  | [] => 0
  | x :: xs => max (dep x) (depL xs)
end
mutual
def plD : D → Bool
  | .lst xs => decide (xs.length ≤ 10000) && plL xs
  | .tup xs => decide (xs.length ≤ 10000) && plL xs
  | .non => true | .bl _ => true | .int _ => true | .str _ => true
  | _ => false
def plL : List D → Bool
  | [] => true
  | x :: xs => plD x && plL xs
end
mutual
theorem likeD_self : ∀ d : D, plD d = true → likeD d d = true
  | .lst xs, h => by
    simp only [plD, Bool.and_eq_true] at h
    simp only [likeD]
    exact likeL_self xs h.2
  | .tup xs, h => by
    simp only [plD, Bool.and_eq_true] at h
    simp only [likeD]
    exact likeL_self xs h.2
  | .non, _ => by simp only [likeD]
  | .bl _, _ => by simp only [likeD, beq_self_eq_true]
  | .int _, _ => by simp only [likeD, beq_self_eq_true]
  | .str _, _ => by simp only [likeD, decide_true]
  | .dic _, h => by simp only [plD, reduceCtorEq] at h
  | .ins _ _, h => by simp only [plD, reduceCtorEq] at h
  | .ty _, h => by simp only [plD, reduceCtorEq] at h
  | .adr _, h => by simp only [plD, reduceCtorEq] at h
  | .exc _ _, h => by simp only [plD, reduceCtorEq] at h
  | .fn _ _ _ _, h => by simp only [plD, reduceCtorEq] at h
theorem likeL_self : ∀ ds : List D, plL ds = true → likeL ds ds = true
  | [], _ => by simp only [likeL]
  | d :: ds, h => by
    simp only [plL, Bool.and_eq_true] at h
    simp only [likeL, likeD_self d h.1, likeL_self ds h.2, Bool.and_self]
end
theorem likeL_len : ∀ {xs ys : List D}, likeL xs ys = true → xs.length = ys.length
  | [], [], _ => rfl
  | _ :: _, [], h => by simp only [likeL, reduceCtorEq] at h
  | [], _ :: _, h => by simp only [likeL, reduceCtorEq] at h
  | x :: xs, y :: ys, h => by
    simp only [likeL, Bool.and_eq_true] at h
    simp only [List.length_cons, likeL_len h.2]
theorem plL_get : ∀ {xs : List D} {i : Nat} {x : D}, plL xs = true → xs[i]? = some x → plD x = true
  | [], _, _, _, h => by simp at h
  | y :: ys, 0, x, h, e => by
    simp only [plL, Bool.and_eq_true] at h
    simp at e
    subst e
    exact h.1
  | y :: ys, i + 1, x, h, e => by
    simp only [plL, Bool.and_eq_true] at h
    exact plL_get (i := i) h.2 (by simpa using e)
theorem depL_get : ∀ {xs : List D} {i : Nat} {x : D}, xs[i]? = some x → dep x ≤ depL xs
  | [], _, _, h => by simp at h
  | y :: ys, 0, x, e => by
    simp at e
    subst e
    simp only [depL]
    omega
  | y :: ys, i + 1, x, e => by
    have := depL_get (xs := ys) (i := i) (x := x) (by simpa using e)
    simp only [depL]
    omega
theorem likeL_zip : ∀ {xs ys : List D}, xs.length = ys.length → likeL xs ys = ((xs.zip ys).map fun p => likeD p.1 p.2).all id
  | [], [], _ => by simp [likeL]
  | _ :: _, [], h => by simp at h
  | [], _ :: _, h => by simp at h
  | x :: xs, y :: ys, h => by
    simp only [likeL, List.zip_cons_cons, List.map_cons, List.all_cons, id]
    rw [likeL_zip (by simpa using h)]
def preLike (n : Nat) : List D → Prop := fun ds => ∃ x y, ds = [x, y] ∧ plD x = true ∧ plD y = true ∧ dep y ≤ n
def postLike : List D → D → Prop := fun ds d => ∃ x y, ds = [x, y] ∧ d = .bl (likeD x y)
theorem ty_of {d : D} (h : plD d = true) : ∃ a, tyName d = some a := by
  cases d <;> first | exact ⟨_, rfl⟩ | (simp only [plD, reduceCtorEq] at h)
/-- isinstance(x, (list, tuple)), the pair made on the way -/
theorem ev_isiT {F : Fm} {δ : List SD} {te : TE} {ta : TA} {P : D → Prop} (h : Ev F te δ fun x => EvA F ta δ fun cs => cs = [.ty "list", .ty "tuple"] ∧ ∃ a, tyName x = some a ∧ P (.bl (isTy a "list" || isTy a "tuple"))) :
    Ev F (tCB (rIsiT F.K) (tCons te (tCons (tTup ta) tNil))) δ P := fun M σ H Q c q => by
  refine h M σ H _ c fun v x H1 p1 c1 e1 r1 => ?_
  refine p1 M σ H1 _ c1 fun vs cs H2 p2 c2 e2 r2 => ?_
  obtain ⟨rfl, a, ha, p⟩ := p2
  cases r2 with
  | cons q1 r3 =>
  cases r3 with
  | cons q2 r4 =>
  cases r4
  cases q1
  cases q2
  refine ⟨sz_of (by decide), fun T hT => ?_⟩
  have s := same_new (o := HO.tup [V.ty "list", V.ty "tuple"]) hT
  have tx : TyX F.K (upd H2 T (.tup [V.ty "list", V.ty "tuple"])) v (.type a) := tyX_of ((r1.mono (hd_step c1 e2)).mono ((same_hd M H2).trans s)) ha
  refine ⟨v, T, _, .type a, [.type "list", .type "tuple"], isTy a "list" || isTy a "tuple", rfl, upd_same, .cons (.ty _) (.cons (.ty _) .nil), tx, ?_, q _ _ _ p (c2.same s) ((e1.trans e2).trans (StepB.of s)) (.bl _)⟩
  have hm := tyName_mem ha
  refine kitAny_cons (kit_ty (kit_isTy hm (by decide))) (fun h1 => ?_) (fun h1 => by rw [h1]; rfl)
  rw [h1, Bool.false_or]
  refine kitAny_cons (kit_ty (kit_isTy hm (by decide))) (fun h2 => ?_) (fun h2 => h2)
  rw [h2]
  exact kitAny_nil

def preL : Nat → List D → Prop
  | 0 => fun _ => False
  | n + 1 => preLike n
theorem isTy_of {d : D} {a : String} (h : tyName d = some a) (n : String) : isTy a n = isD d n := by unfold isD; rw [h]
theorem pairs_get {xs ys : List D} {i : Nat} {d : D} (h : (pairs xs ys)[i]? = some d) : ∃ x y, xs[i]? = some x ∧ ys[i]? = some y ∧ d = .tup [x, y] := by
  unfold pairs at h
  rw [List.getElem?_map] at h
  cases e : (xs.zip ys)[i]? with
  | none => rw [e] at h; cases h
  | some p =>
    rw [e] at h
    obtain ⟨h1, h2⟩ := List.getElem?_zip_eq_some.mp e
    exact ⟨p.1, p.2, h1, h2, (Option.some.inj h).symm⟩
theorem ok_like_ {P : Program} {w : World} {K : PySem.W.Frag} {mg : Str → Option Value} {base : Heap} (T : Txt K mg) (n : Nat) (G : FnOk P w K mg base CX0 n T.f_like T.fd_like ["_law_found", "_law_due"] (spD K (preL n) postLike)) :
    FnOk P w K mg base CX0 (n + 1) T.f_like T.fd_like ["_law_found", "_law_due"] (spD K (preLike n) postLike) := by
  refine T.F_like.ok sc_like (spD_len fun ds ⟨x, y, e, _⟩ => by rw [e]; rfl) (fun cdv A outer s H vs Q E hr h => ?_)
  refine ⟨_, (pss_cons (ps_if (pt_val (pe_callB (callIsiT K) (by rfl) T.b_isinstance (by decide +kernel) (pa_cons (pv 1) (pa_cons (pe_tup (pa_cons (pe_bltn (v := .ty "list") (by rfl) T.b_list (by decide +kernel) rfl) (pa_cons (pe_bltn (v := .ty "tuple") (by rfl) T.b_tuple (by decide +kernel) rfl) pa_nil))) pa_nil)))) (pss_cons (ps_if (PW.pt (pw_or (pt_cmpR op_ne (pe_callB (callIsi K) (by rfl) T.b_isinstance (by decide +kernel) (pa_cons (pv 0) (pa_cons (pe_bltn (v := .ty "list") (by rfl) T.b_list (by decide +kernel) rfl) pa_nil))) (pe_callB (callIsi K) (by rfl) T.b_isinstance (by decide +kernel) (pa_cons (pv 1) (pa_cons (pe_bltn (v := .ty "list") (by rfl) T.b_list (by decide +kernel) rfl) pa_nil))) (nomark _)) (pw_or1 (pt_cmpR op_ne (pe_callB (callIsi K) (by rfl) T.b_isinstance (by decide +kernel) (pa_cons (pv 0) (pa_cons (pe_bltn (v := .ty "tuple") (by rfl) T.b_tuple (by decide +kernel) rfl) pa_nil))) (pe_callB (callIsi K) (by rfl) T.b_isinstance (by decide +kernel) (pa_cons (pv 1) (pa_cons (pe_bltn (v := .ty "tuple") (by rfl) T.b_tuple (by decide +kernel) rfl) pa_nil))) (nomark _))))) (pss_one (ps_ret pe_bl)) pss_nil)
      (pss_one (ps_ret (pe_and (pe_cmpR op_eq (pe_callB (callLen K) (by rfl) T.b_len (by decide +kernel) (pa_cons (pv 0) pa_nil)) (pe_callB (callLen K) (by rfl) T.b_len (by decide +kernel) (pa_cons (pv 1) pa_nil)) (nomark _)) (pe_one (pe_callB (callAll K) (by rfl) T.b_all (by decide +kernel) (pa_cons (pe_lc (own := [("_law_one", 2), ("_law_other", 3)]) rfl sc_like.nd (pi_zipA (by rfl) T.b_zip (pa_cons (pv 0) (pa_cons (pv 1) pa_nil))) (blkOk_by (N := N_like) (sc := defScope s_like) (by decide +kernel)) (fun _ _ _ _ _ => (pgTup K (n := 2) rfl (pgs_cons (pg_name (i := 2) sc_like.nd rfl (Or.inl rfl)) (pgs_cons (pg_name (i := 3) sc_like.nd rfl (Or.inl rfl)) pgs_nil)))) (fun _ _ _ _ _ => pts_nil) (fun _ _ _ _ _ => (pe_call G hr rfl T.g_like T.k_like T.bd_like .nil pass0 (pa_cons (pv 2) (pa_cons (pv 3) pa_nil))))) pa_nil))))))) pss_nil)
    (pss_cons (ps_if (PW.pt (pw_or (pt_cmpR op_isN (pv 1) pe_non (nomark _)) (pw_or1 (pt_cmpR op_isN (pv 0) pe_non (nomark _))))) (pss_one (ps_ret (pe_and (pe_cmpR op_isN (pv 1) pe_non (nomark _)) (pe_one (pe_cmpR op_isN (pv 0) pe_non (nomark _)))))) pss_nil)
    (pss_cons (ps_if (PW.pt (pw_or (pt_cmpR op_ne (pe_callB (callIsi K) (by rfl) T.b_isinstance (by decide +kernel) (pa_cons (pv 0) (pa_cons (pe_bltn (v := .ty "bool") (by rfl) T.b_bool (by decide +kernel) rfl) pa_nil))) (pe_callB (callIsi K) (by rfl) T.b_isinstance (by decide +kernel) (pa_cons (pv 1) (pa_cons (pe_bltn (v := .ty "bool") (by rfl) T.b_bool (by decide +kernel) rfl) pa_nil))) (nomark _)) (pw_or1 (pt_cmpR op_ne (pe_callB (callIsi K) (by rfl) T.b_isinstance (by decide +kernel) (pa_cons (pv 0) (pa_cons (pe_bltn (v := .ty "int") (by rfl) T.b_int (by decide +kernel) rfl) pa_nil))) (pe_callB (callIsi K) (by rfl) T.b_isinstance (by decide +kernel) (pa_cons (pv 1) (pa_cons (pe_bltn (v := .ty "int") (by rfl) T.b_int (by decide +kernel) rfl) pa_nil))) (nomark _))))) (pss_one (ps_ret pe_bl)) pss_nil)
    (pss_one (ps_ret (pe_and (pe_cmpR op_eq (pe_callB (callIsi K) (by rfl) T.b_isinstance (by decide +kernel) (pa_cons (pv 0) (pa_cons (pe_bltn (v := .ty "str") (by rfl) T.b_str (by decide +kernel) rfl) pa_nil))) (pe_callB (callIsi K) (by rfl) T.b_isinstance (by decide +kernel) (pa_cons (pv 1) (pa_cons (pe_bltn (v := .ty "str") (by rfl) T.b_str (by decide +kernel) rfl) pa_nil))) (nomark _)) (pe_one (pe_cmpR op_eq (pv 0) (pv 1) (nomark _))))))))), ?_⟩
  refine enterD h fun M ds pre _ => ?_
  obtain ⟨x, y, rfl, px, py, hd⟩ := pre
  obtain ⟨a, ha⟩ := ty_of px
  obtain ⟨b, hb⟩ := ty_of py
  have isx : ∀ {n : String} {P : D → Prop}, n ∈ tyAsk → P (.bl (isD x n)) → CallD K (rIsi K) [x, .ty n] P := fun hn p => cd_isi ha hn p
  have isy : ∀ {n : String} {P : D → Prop}, n ∈ tyAsk → P (.bl (isD y n)) → CallD K (rIsi K) [y, .ty n] P := fun hn p => cd_isi hb hn p
  refine do_seq (do_if (et_B (ev_isiT (ev_var rfl ?_))))
  refine ea_cons (ev_ty (ea_cons (ev_ty (ea_nil ⟨rfl, b, hb, _, rfl, fun hl => ?_, fun hl => ?_⟩))))
  · -- a list or a tuple is due
    have hdy : isD y "list" = true ∨ isD y "tuple" = true := by
      rw [isTy_of hb, isTy_of hb, Bool.or_eq_true] at hl
      exact hl
    refine do_seq (do_if (et_or (et_test ?_)))
    repeat (first | walk_at "ev" | refine isx (by decide) ?_ | refine isy (by decide) ?_)
    refine ⟨_, rfl, fun h1 => et_test ?_, fun h1 => ⟨fun _ => ?_, fun h => nomatch h⟩⟩
    · repeat (first | walk_at "ev" | refine isx (by decide) ?_ | refine isy (by decide) ?_)
      refine ⟨_, rfl, fun h2 => ?_, fun h2 => ?_⟩
      · refine do_ret (ev_bl ⟨x, y, rfl, ?_⟩)
        cases x <;> cases y <;> first | rfl | (simp [isD, tyName, isTy] at h1 h2 hdy)
      · refine do_next ?_
        obtain ⟨xs, ys, hxy⟩ : ∃ xs ys, (x = .lst xs ∧ y = .lst ys) ∨ (x = .tup xs ∧ y = .tup ys) := by
          cases x <;> cases y <;> first | exact ⟨_, _, .inl ⟨rfl, rfl⟩⟩ | exact ⟨_, _, .inr ⟨rfl, rfl⟩⟩ | (simp [isD, tyName, isTy] at h1 h2 hdy)
        have hlx : lenD x = some xs.length := by rcases hxy with ⟨rfl, _⟩ | ⟨rfl, _⟩ <;> rfl
        have hly : lenD y = some ys.length := by rcases hxy with ⟨_, rfl⟩ | ⟨_, rfl⟩ <;> rfl
        have pxs : xs.length ≤ 10000 ∧ plL xs = true := by
          rcases hxy with ⟨rfl, _⟩ | ⟨rfl, _⟩ <;> (simp only [plD, Bool.and_eq_true, decide_eq_true_eq] at px; exact px)
        have pys : ys.length ≤ 10000 ∧ plL ys = true := by
          rcases hxy with ⟨_, rfl⟩ | ⟨_, rfl⟩ <;> (simp only [plD, Bool.and_eq_true, decide_eq_true_eq] at py; exact py)
        have hdl : depL ys + 1 ≤ n := by
          rcases hxy with ⟨_, rfl⟩ | ⟨_, rfl⟩ <;> (simp only [dep] at hd; exact hd)
        have hlk : likeD x y = likeL xs ys := by rcases hxy with ⟨rfl, rfl⟩ | ⟨rfl, rfl⟩ <;> simp only [likeD]
        obtain ⟨k, rfl⟩ : ∃ k, n = k + 1 := ⟨n - 1, by omega⟩
        refine do_ret ?_
        repeat (first | walk_at "ev" | refine cd_lenK hlx (by omega) ?_ | refine cd_lenK hly (by omega) ?_)
        refine ⟨_, rfl, fun h3 => ?_, fun h3 => ⟨x, y, rfl, ?_⟩⟩
        · have hxl : xs.length = ys.length := by
            have := of_decide_eq_true h3
            omega
          refine ev_cb (ea_cons (EvN.ev ?_))
          refine en_lc (js := [2, 3]) (PX := fun l => l = pairs xs ys) (it_zipA ?_) (fun l e => ?_) (by decide) (fun l i acc => acc = (((xs.zip ys).take i).map fun p => D.bl (likeD p.1 p.2))) (fun l e => rfl) ?_ ?_
          · refine ea_cons (ev_var rfl (ea_cons (ev_var rfl (ea_nil ⟨xs, ys, ?_, rfl⟩))))
            rcases hxy with ⟨rfl, rfl⟩ | ⟨rfl, rfl⟩
            · exact .inl rfl
            · exact .inr rfl
          · subst e
            unfold pairs
            rw [List.length_map, List.length_zip]
            omega
          · rintro l i d acc rfl hi rfl
            obtain ⟨u, v, hu, hv, rfl⟩ := pairs_get hi
            refine tg_tup rfl ?_
            refine tgs_cons (tg_name (tgs_cons (tg_name (tgs_nil ?_))))
            refine et_yes ⟨fun _ => ?_, fun h => nomatch h⟩
            refine ev_call ?_
            refine ea_cons (ev_var rfl (ea_cons (ev_var rfl (ea_nil ⟨⟨u, v, rfl, plL_get pxs.2 hu, plL_get pys.2 hv, ?_⟩, fun d hd => ?_⟩))))
            · have := depL_get hv
              omega
            · obtain ⟨u', v', e, rfl⟩ := hd
              cases e
              have hz : (xs.zip ys)[i]? = some (u, v) := List.getElem?_zip_eq_some.mpr ⟨hu, hv⟩
              rw [List.take_succ, hz]
              simp
          · rintro l ds rfl rfl
            have hfull : ((xs.zip ys).take (pairs xs ys).length) = xs.zip ys := by
              unfold pairs
              rw [List.length_map, List.take_length]
            rw [hfull]
            have : ((xs.zip ys).map fun p => D.bl (likeD p.1 p.2)) = blD ((xs.zip ys).map fun p => likeD p.1 p.2) := by unfold blD; rw [List.map_map]; rfl
            rw [this]
            refine ea_nil (cd_all ⟨x, y, rfl, ?_⟩)
            rw [hlk, likeL_zip hxl]
        · have : likeL xs ys = false := by
            cases e : likeL xs ys with
            | false => rfl
            | true =>
              have := likeL_len e
              rw [this] at h3
              simp at h3
          rw [hlk, this]
    · refine do_ret (ev_bl ⟨x, y, rfl, ?_⟩)
      cases x <;> cases y <;> first | rfl | (simp [isD, tyName, isTy] at h1 hdy)
  · -- a scalar is due
    refine do_next ?_
    have hny : isD y "list" = false ∧ isD y "tuple" = false := by
      rw [isTy_of hb, isTy_of hb, Bool.or_eq_false_iff] at hl
      exact hl
    refine do_seq (do_if (et_or (et_test ?_)))
    repeat walk_at "ev"
    refine ⟨_, rfl, fun h1 => et_test ?_, fun h1 => ⟨fun _ => ?_, fun h => nomatch h⟩⟩
    · repeat walk_at "ev"
      refine ⟨_, rfl, fun h2 => ?_, fun h2 => ?_⟩
      · refine do_ret ?_
        repeat walk_at "ev"
        refine ⟨_, rfl, fun h3 => ?_, fun _ => ⟨x, y, rfl, ?_⟩⟩
        · rw [h1] at h3
          cases h3
        · cases x <;> cases y <;> first | rfl | (simp [isNon, isD, tyName, isTy] at h1 h2 hny)
      · refine do_next ?_
        refine do_seq (do_if (et_or (et_test ?_)))
        repeat (first | walk_at "ev" | refine isx (by decide) ?_ | refine isy (by decide) ?_)
        refine ⟨_, rfl, fun h3 => et_test ?_, fun h3 => ⟨fun _ => ?_, fun h => nomatch h⟩⟩
        · repeat (first | walk_at "ev" | refine isx (by decide) ?_ | refine isy (by decide) ?_)
          refine ⟨_, rfl, fun h4 => ?_, fun h4 => ?_⟩
          · refine do_ret (ev_bl ⟨x, y, rfl, ?_⟩)
            cases x <;> cases y <;> first | rfl | (simp [isNon, isD, tyName, isTy] at h1 h2 h3 h4 hny)
          · refine do_next (do_ret ?_)
            refine ev_and ?_
            repeat (first | walk_at "ev" | refine isx (by decide) ?_ | refine isy (by decide) ?_)
            refine ⟨_, rfl, fun h5 => ?_, fun h5 => ⟨x, y, rfl, ?_⟩⟩
            · refine ev_op (ev_var rfl (ev_var rfl ?_))
              cases x <;> cases y <;> first
                | (simp [isNon, isD, tyName, isTy] at h1 h2 h3 h4 h5 hny; done)
                | exact od_eq_bl ⟨_, _, rfl, by simp only [likeD, Bool.beq_eq_decide_eq]⟩
                | exact od_eq_int ⟨_, _, rfl, by simp only [likeD, Bool.beq_eq_decide_eq]⟩
                | exact od_eq_str ⟨_, _, rfl, by simp only [likeD]⟩
                | (simp [plD] at px; done)
                | (simp [plD] at py; done)
            · cases x <;> cases y <;> first | rfl | (simp [isNon, isD, tyName, isTy] at h1 h2 h3 h4 h5 hny)
        · refine do_ret (ev_bl ⟨x, y, rfl, ?_⟩)
          cases x <;> cases y <;> first | rfl | (simp [isNon, isD, tyName, isTy] at h1 h2 h3 hny)
    · refine do_ret ?_
      repeat walk_at "ev"
      refine ⟨_, rfl, fun h3 => ?_, fun h3 => ⟨x, y, rfl, ?_⟩⟩
      · repeat walk_at "ev"
        refine ⟨x, y, rfl, ?_⟩
        cases x <;> cases y <;> first | rfl | (simp [isNon] at h1)
      · rw [h1] at h3
        cases h3
theorem ok_like {P : Program} {w : World} {K : PySem.W.Frag} {mg : Str → Option Value} {base : Heap} (T : Txt K mg) : ∀ n, FnOk P w K mg base CX0 (n + 1) T.f_like T.fd_like ["_law_found", "_law_due"] (spD K (preLike n) postLike) := by
  intro n
  induction n with
  | zero => exact ok_like_ T 0 ⟨fun vs H Q E ⟨_, _, _, _, p, _⟩ => p.elim, fun A outer s H args us vs Q E _ _ _ _ ⟨_, _, _, _, p, _⟩ => p.elim⟩
  | succ n ih => exact ok_like_ T (n + 1) ih
/-! ### the bag is made -/
def spOpen (K : PySem.W.Frag) : Sp := fun vs H Q _ => ∃ (a : Addr) (ns : List Int), vs = [.ref a] ∧ SqL K H a (ns.map V.int) ∧ ns.length ≤ 63 ∧ ∀ b c H', H b = none → Same H H' → BagAt H' b c → Q (.ref b) H'
theorem cut63 {ns : List Int} (h : ns.length ≤ 63) : cutV (ns.map V.int) none (some 63) = ns.map V.int := by
  unfold cutV
  have e1 : HT.sIx (ns.map V.int).length 0 none = 0 := rfl
  have e2 : HT.sIx (ns.map V.int).length (ns.map V.int).length (some 63) = ns.length := by
    rw [List.length_map]
    have := HT.sIx_nat ns.length ns.length 63
    rw [show ((63 : Nat) : Int) = 63 from rfl] at this
    rw [this]
    omega
  rw [e1, e2, List.drop_zero, Nat.sub_zero]
  exact List.take_of_length_le (by rw [List.length_map]; exact Nat.le_refl _)
theorem ok_open {P : Program} {w : World} {K : PySem.W.Frag} {mg : Str → Option Value} {base : Heap} (T : Txt K mg) : FnOk P w K mg base CX0 2 T.f_open T.fd_open ["_law_script"] (spOpen K) := by
  refine T.F_open.ok sc_open (fun vs H Q E h => ?_) (fun cdv A outer s H vs Q E hr h => ?_)
  · obtain ⟨a, ns, rfl, _⟩ := h
    rfl
  refine ⟨_, (pss_one (ps_ret (pe_lst (pa_cons (pe_callTy (callList K) (by rfl) T.b_list (by decide +kernel) (pa_cons (pe_slice (slL K) (pv 0) po_none (po_some pe_int)) pa_nil)) (pa_cons pe_int (pa_cons pe_int (pa_cons pe_int (pa_cons pe_int pa_nil)))))))), ?_⟩
  obtain ⟨a, ns, rfl, hs, hn, q⟩ := h
  refine ⟨_, rfl, 63, rfl, _, _, rfl, hs, fun p hp => ?_⟩
  have s1 : Same H (upd H p (.lst (cutV (ns.map V.int) none (some 63)))) := same_new hp
  refine ⟨p, _, rfl, .inl (SqL.of upd_same), fun c hc => ?_⟩
  refine ⟨sz_of (show 5 ≤ 100000 by decide), fun b hb => ?_⟩
  have hcp : c ≠ p := fun e => by
    rw [e, upd_same] at hc
    cases hc
  have hbc : c ≠ b := fun e => by
    rw [← e, upd_same] at hb
    cases hb
  refine q b c _ ?_ (fun x o h => ?_) ⟨ns, 0, 0, 100081, 0, upd_same, hbc, by rw [upd_ne hbc, upd_same, cut63 hn], Nat.zero_le _, hn, Int.le_refl _, by decide, by decide, Int.le_refl _⟩
  · cases z : H b with
    | none => rfl
    | some o =>
      have h1 : b ≠ p := ne_of_none z hp
      have h2 : (upd H p (.lst (cutV (ns.map V.int) none (some 63)))) b = some o := by rw [upd_ne h1]; exact z
      have h3 : b ≠ c := ne_of_none h2 hc
      rw [upd_ne h3, h2] at hb
      cases hb
  · have h2 := s1 x o h
    have h3 : (upd (upd H p (.lst (cutV (ns.map V.int) none (some 63)))) c (.lst (cutV (ns.map V.int) none (some 63)))) x = some o := by rw [upd_ne (ne_of_none h2 hc)]; exact h2
    rw [upd_ne (ne_of_none h3 hb)]
    exact h3
/-! ### the law's own frame: the bag in slot 1, nothing else known -/
theorem lawDo {K : PySem.W.Frag} {N : List Str} {H1 : Hp} {b c : Addr} {t : TS} {Q : VK} {σ : L2.St} {δ : List SD} (ba : BagAt H1 b c) (hl : σ.length = δ.length) (h1 : σ[1]? = some (some (.ref b))) (hδ : ∀ i x, δ[i]? = some x → x = .un ∨ (i = 1 ∧ x = .bag))
    (hb : ∀ (M0 : Addr → Bool) (E : XK), Do ⟨K, some b, M0, H1, E, c, []⟩ t δ { nx := fun _ => False, rt := fun d => d = .bl true }) (q : ∀ H', Q (.bl true) H') : t { nx := fun _ H' => Q .non H', rt := Q } σ H1 := by
  have hc : ∃ o, H1 c = some o := by
    obtain ⟨ns, i, z, s, t, _, _, h3, _⟩ := ba
    exact ⟨_, h3⟩
  have al : ∀ a, decide (a = b) = true → ∃ o, H1 a = some o := fun a h => by
    have := of_decide_eq_true h
    subst this
    exact ba.at
  have cx : Ctx ⟨K, some b, fun a => decide (a = b), H1, fun _ _ _ => True, c, []⟩ (fun a => decide (a = b)) σ H1 δ := by
    refine ⟨al, al, fun _ h => h, StepB.refl _ _, ⟨fun b' z => ?_, fun a h => (nomatch h)⟩, hl, fun i x hx => ?_, fun i j p ds es h1 h2 => ?_, fun i p ds h => ?_⟩
    · cases z
      exact ⟨decide_eq_true rfl, ba, hc⟩
    · have hi : i < σ.length := by
        have := (List.getElem?_eq_some_iff.mp hx).1
        omega
      rcases hδ i x hx with rfl | ⟨rfl, rfl⟩
      · exact ⟨σ[i], by simp [hi], trivial⟩
      · exact ⟨_, h1, b, rfl, rfl⟩
    · rcases hδ i _ h1 with z | ⟨_, z⟩ <;> cases z
    · rcases hδ i _ h with z | ⟨_, z⟩ <;> cases z
  refine hb _ _ _ σ H1 _ cx (fun _ _ _ _ p => p.elim) (fun v d M' σ' H' δ' p _ _ r => ?_) (fun _ _ _ _ p => p.elim) (fun _ _ _ _ p => p.elim)
  have e : d = .bl true := p
  subst e
  cases r
  exact q H'
/-- slots forgotten ahead of what follows -/
theorem Ctx.forget1 {F : Fm} {M : Addr → Bool} {σ : L2.St} {H : Hp} {δ : List SD} (c : Ctx F M σ H δ) (i : Nat) : Ctx F M σ H (δ.set i .un) := by
  refine ⟨c.al, c.al0, c.m0, c.fr, c.bg, by rw [List.length_set, c.ln], fun j x hx => ?_, fun j k p ds es h1 h2 => ?_, fun j p ds h => ?_⟩
  · rcases set_key hx with ⟨rfl, rfl, hl⟩ | ⟨hj, hx⟩
    · exact ⟨σ[i]'(by rw [c.ln]; exact hl), by simp, trivial⟩
    · exact c.sl j x hx
  · rcases set_key h1 with ⟨_, z, _⟩ | ⟨_, h1⟩
    · cases z
    rcases set_key h2 with ⟨_, z, _⟩ | ⟨_, h2⟩
    · cases z
    exact c.dj j k p ds es h1 h2
  · rcases set_key h with ⟨_, z, _⟩ | ⟨_, h⟩
    · cases z
    exact c.oh j p ds h
theorem Ctx.forget {F : Fm} {M : Addr → Bool} {σ : L2.St} {H : Hp} {δ : List SD} (c : Ctx F M σ H δ) : ∀ js : List Nat, Ctx F M σ H (wipeD δ js)
  | [] => c
  | j :: js => (Ctx.forget c js).forget1 j
theorem do_wk {F : Fm} {t : TS} {δ : List SD} {R : PD} (js : List Nat) (h : Do F t δ { R with nx := fun δ' => R.nx (wipeD δ' js), ct := fun δ' => R.ct (wipeD δ' js), bk := fun δ' => R.bk (wipeD δ' js) }) : Do F t δ R := fun M σ H E c a b k d =>
  h M σ H E c (fun M' σ' H' δ' p c' s => a M' σ' H' _ p (c'.forget js) s) b (fun M' σ' H' δ' p c' s => k M' σ' H' _ p (c'.forget js) s) (fun M' σ' H' δ' p c' s => d M' σ' H' _ p (c'.forget js) s)
/-- x = e, then the rest: what e is first -/
theorem do_letP {F : Fm} {te : TE} {u : TS} {δ : List SD} {R : PD} {i : Nat} (P : D → Prop) (h : Ev F te δ P) (k : ∀ x, P x → Do F u (δ.set i (.dat x)) R) : Do F (tSeq (tAsg te (gName i)) u) δ R :=
  do_seq (do_set (h.imp fun x p => k x p))
/-- a text's method of one argument, of none -/
theorem ev_m1 {F : Fm} {δ : List SD} {to te : TE} {r : V → List V → Hp → VK → Prop} {P : D → Prop} (h : Ev F to δ fun x => ∃ z, x = .str z ∧ Ev F te δ fun y => CallD F.K (fun vs H Q => ∃ u v, vs = [u, v] ∧ r u [v] H Q) [.str z, y] P) : Ev F (tM1 r to te) δ P := fun M σ H Q c q =>
  h M σ H _ c fun v x H1 p1 c1 e1 r1 => by
    obtain ⟨z, rfl, p⟩ := p1
    cases r1
    refine ⟨⟨z, rfl⟩, p M σ H1 _ c1 fun w y H2 p2 c2 e2 r2 => ?_⟩
    obtain ⟨u, v, e, h⟩ := p2 M H2 [.str z, w] Q c2.al (.cons (.str z) (.cons r2 .nil)) fun u d H3 p e r3 => q u d H3 p (c2.same e) ((e1.trans e2).trans (StepB.of e)) r3
    cases e
    exact h

/-- into the law behind bag = open(script) -/
def slotsL (N : List Str) : List SD := .un :: .bag :: List.replicate (N.length - 2) .un
def spLaw (K : PySem.W.Frag) : Sp := fun vs H Q _ => ∃ (a : Addr) (ns : List Int), vs = [.ref a] ∧ SqL K H a (ns.map V.int) ∧ ns.length ≤ 63 ∧ ∀ H', Q (.bl true) H'
theorem lawIn {K : PySem.W.Frag} {N : List Str} {vs : List V} {H : Hp} {t : TS} {Q : VK} {E E' : XK} (h : spLaw K vs H Q E) (hN : 2 ≤ N.length)
    (hb : ∀ (b c : Addr) (H1 : Hp) (M0 : Addr → Bool) (E : XK), Do ⟨K, some b, M0, H1, E, c, []⟩ t (slotsL N) { nx := fun _ => False, rt := fun d => d = .bl true }) :
    tSeq (tAsg (tCall (spOpen K) [] E' (tCons (tVar 0) tNil)) (gName 1)) t { nx := fun _ H' => Q .non H', rt := Q } (L2.start N vs) H := by
  obtain ⟨a, ns, rfl, hs, hn, q⟩ := h
  have hl : (L2.start N [V.ref a]).length = N.length := by
    unfold L2.start
    rw [List.length_append, List.length_replicate, List.length_map, List.length_cons, List.length_nil]
    omega
  refine ⟨.ref a, rfl, a, ns, rfl, hs, hn, fun b c H1 hb0 s1 ba => ?_⟩
  show t { nx := fun _ H' => Q .non H', rt := Q } ((L2.start N [V.ref a]).set 1 (some (.ref b))) H1
  refine lawDo (N := N) (δ := slotsL N) ba ?_ ?_ (fun i x h => ?_) (hb b c H1) q
  · unfold slotsL
    rw [List.length_set, hl, List.length_cons, List.length_cons, List.length_replicate]
    omega
  · rw [List.getElem?_set_self (by rw [hl]; omega)]
  · unfold slotsL at h
    match i, h with
    | 0, h => exact .inl (Option.some.inj h).symm
    | 1, h => exact .inr ⟨rfl, (Option.some.inj h).symm⟩
    | i + 2, h => exact .inl (List.eq_of_mem_replicate (List.mem_of_getElem? h))
section
variable {F : Fm} {δ : List SD} {ta : TA} {P : D → Prop} {E : XK} {i : Nat} {b : Addr}
theorem ev_draw (hb : F.B = some b) (hi : δ[i]? = some .bag) (h : EvA F ta δ fun ds => ∃ m, ds = [.int m] ∧ 0 < m ∧ m < 1073741824 ∧ ∀ r, 0 ≤ r → r < m → P (.int r)) : Ev F (tCall (spB F.K preDraw postDraw) [] E (tCons (tVar i) ta)) δ P :=
  ev_callB hb hi (h.imp fun ds ⟨m, e, h0, h1, p⟩ => ⟨⟨m, e, h0, h1⟩, fun d ⟨m', r, e', e2, h2, h3⟩ => by
    subst e
    cases e'
    subst e2
    exact p r h2 h3⟩)
theorem ev_of (hb : F.B = some b) (hi : δ[i]? = some .bag) (h : EvA F ta δ fun ds => ∃ x n, ds = [x] ∧ lenD x = some n ∧ 0 < n ∧ n ≤ 100000 ∧ ∀ k d, 0 ≤ k → k < (n : Int) → atD x k = some d → P d) : Ev F (tCall (spB F.K preOf postOf) [] E (tCons (tVar i) ta)) δ P :=
  ev_callB hb hi (h.imp fun ds ⟨x, n, e, h0, h1, h2, p⟩ => ⟨⟨x, n, e, h0, h1, h2⟩, fun d ⟨x', n', k, e', e2, h3, h4, h5⟩ => by
    subst e
    cases e'
    rw [h0] at e2
    cases e2
    exact p k d h3 h4 h5⟩)
theorem atI_mem {α : Type} {xs : List α} {k : Int} {d : α} (h : atI xs k = some d) : d ∈ xs := by
  obtain ⟨j, _, h2, _⟩ := atI_get h
  exact List.mem_of_getElem? h2
/-- one of a list | of a text -/
theorem ev_ofL (hb : F.B = some b) (hi : δ[i]? = some .bag) (h : EvA F ta δ fun ds => ∃ xs, ds = [.lst xs] ∧ xs ≠ [] ∧ xs.length ≤ 100000 ∧ ∀ d ∈ xs, P d) : Ev F (tCall (spB F.K preOf postOf) [] E (tCons (tVar i) ta)) δ P :=
  ev_of hb hi (h.imp fun ds ⟨xs, e, h0, h1, p⟩ => ⟨_, xs.length, e, rfl, List.length_pos_iff.mpr h0, h1, fun k d _ _ h2 => p d (atI_mem h2)⟩)
theorem ev_ofS (hb : F.B = some b) (hi : δ[i]? = some .bag) (h : EvA F ta δ fun ds => ∃ z : Str, ds = [.str z] ∧ 0 < z.length ∧ z.length ≤ 100000 ∧ ∀ c ∈ z.cps.toList, P (.str ⟨#[c]⟩)) : Ev F (tCall (spB F.K preOf postOf) [] E (tCons (tVar i) ta)) δ P :=
  ev_of hb hi (h.imp fun ds ⟨z, e, h0, h1, p⟩ => ⟨_, z.length, e, rfl, h0, h1, fun k d _ _ h2 => by
    have h3 : (atI z.cps.toList k).map (fun c => D.str ⟨#[c]⟩) = some d := h2
    cases e2 : atI z.cps.toList k with
    | none => rw [e2] at h3; cases h3
    | some c =>
      rw [e2] at h3
      cases h3
      exact p c (atI_mem e2)⟩)
theorem ev_like {n : Nat} (h : EvA F ta δ fun ds => ∃ x y, ds = [x, y] ∧ plD x = true ∧ plD y = true ∧ dep y ≤ n ∧ P (.bl (likeD x y))) : Ev F (tCall (spD F.K (preLike n) postLike) [] E ta) δ P :=
  ev_call (h.imp fun ds ⟨x, y, e, h0, h1, h2, p⟩ => ⟨⟨x, y, e, h0, h1, h2⟩, fun d ⟨x', y', e', e2⟩ => by
    subst e
    cases e'
    subst e2
    exact p⟩)
end
/-! texts -/
def strD (zs : List Str) : List D := zs.map .str
theorem repL_str {K : PySem.W.Frag} {H : Hp} : ∀ {vs : List V} {zs : List Str}, RepL K H vs (strD zs) → vs = zs.map V.str
  | _, [], .nil => rfl
  | _, b :: bs, .cons (.str _) r => by rw [List.map_cons, repL_str (zs := bs) r]
theorem cd_join {K : PySem.W.Frag} {P : D → Prop} {a : Str} {ys : List Str} (hz : (ys.map (·.length)).sum + ys.length * a.length ≤ 16777216) (p : P (.str (Txt.join a ys))) :
    CallD K (fun vs H Q => ∃ u v, vs = [u, v] ∧ ∃ a p, ∃ ys : List Str, u = V.str a ∧ [v] = [V.ref p] ∧ (SqL K H p (ys.map V.str) ∨ SqT K H p (ys.map V.str)) ∧ (ys.map (·.length)).sum + ys.length * a.length ≤ 16777216 ∧ Q (.str (Txt.join a ys)) H) [.str a, .lst (strD ys)] P := fun M H vs Q al r q => by
  cases r with
  | cons r1 r2 =>
  cases r2 with
  | cons r2 r3 =>
  cases r3
  cases r1
  cases r2 with
  | lst h1 h2 =>
    have e := repL_str h2
    subst e
    exact ⟨_, _, rfl, a, _, ys, rfl, rfl, .inl (SqL.of (hd_of h1).2), hz, q _ _ H p (Same.refl H) (.str _)⟩
theorem joinL_nil : ∀ ls : List (List Nat), TL.joinL [] ls = ls.flatten
  | [] => rfl
  | [p] => by simp [TL.joinL]
  | p :: q :: r => by
    show p ++ ([] ++ TL.joinL [] (q :: r)) = _
    rw [joinL_nil (q :: r)]
    simp
theorem join_signs (cs : List Nat) : Txt.join (Str.ofString "") (cs.map fun c => (⟨#[c]⟩ : Str)) = ⟨cs.toArray⟩ := by
  have h : TL.tl (Txt.join (Str.ofString "") (cs.map fun c => (⟨#[c]⟩ : Str))) = cs := by
    rw [TL.join_eq, TL.tl_join]
    have e : TL.tl (Str.ofString "") = [] := by decide +kernel
    rw [e, joinL_nil, List.map_map]
    show (cs.map fun c => [c]).flatten = cs
    induction cs with
    | nil => rfl
    | cons c cs ih => rw [List.map_cons, List.flatten_cons, ih]; rfl
  have h2 : (Txt.join (Str.ofString "") (cs.map fun c => (⟨#[c]⟩ : Str))).cps.toList = cs := h
  generalize Txt.join (Str.ofString "") (cs.map fun c => (⟨#[c]⟩ : Str)) = z at h2
  obtain ⟨a⟩ := z
  have h3 : a.toList = cs := h2
  rw [← h3]
theorem sum_signs (cs : List Nat) : ((cs.map fun c => (⟨#[c]⟩ : Str)).map (·.length)).sum = cs.length := by
  induction cs with
  | nil => rfl
  | cons c cs ih =>
    rw [List.map_cons, List.map_cons, List.sum_cons, ih]
    show 1 + cs.length = cs.length + 1
    omega
theorem str_len (z : Str) : z.cps.toList.length = z.length := by simp [Str.length]
theorem add_len (a b : Str) : (a ++ b).length = a.length + b.length := by
  show (a.cps ++ b.cps).size = _
  rw [Array.size_append]
  rfl
/-! ### numbers and names -/
def isWh (x : D) : Bool := match x with
  | .int _ => true | _ => false
def isNum (x : D) (lo hi : Int) : Bool := match x with
  | .int i => decide (lo ≤ i) && decide (i ≤ hi) | _ => false
def preWh : List D → Prop := fun ds => ∃ x, ds = [x] ∧ plD x = true
def postWh : List D → D → Prop := fun ds d => ∃ x, ds = [x] ∧ d = .bl (isWh x)
theorem ok_is_whole {P : Program} {w : World} {K : PySem.W.Frag} {mg : Str → Option Value} {base : Heap} (T : Txt K mg) : FnOk P w K mg base CX0 1 T.f_is_whole T.fd_is_whole ["value"] (spD K preWh postWh) := by
  refine T.F_is_whole.ok sc_is_whole (spD_len fun ds ⟨x, e, _⟩ => by rw [e]; rfl) (fun cdv A outer s H vs Q E hr h => ?_)
  refine ⟨_, (pss_one (ps_ret (pe_and (pe_callB (callIsi K) (by rfl) T.b_isinstance (by decide +kernel) (pa_cons (pv 0) (pa_cons (pe_bltn (v := .ty "int") (by rfl) T.b_int (by decide +kernel) rfl) pa_nil))) (pe_one (pe_not (pe_callB (callIsi K) (by rfl) T.b_isinstance (by decide +kernel) (pa_cons (pv 0) (pa_cons (pe_bltn (v := .ty "bool") (by rfl) T.b_bool (by decide +kernel) rfl) pa_nil)))))))), ?_⟩
  refine enterD h fun M ds pre _ => ?_
  obtain ⟨x, rfl, px⟩ := pre
  obtain ⟨a, ha⟩ := ty_of px
  have isx : ∀ {n : String} {P : D → Prop}, n ∈ tyAsk → P (.bl (isD x n)) → CallD K (rIsi K) [x, .ty n] P := fun hn p => cd_isi ha hn p
  refine do_ret ?_
  repeat (first | walk_at "ev" | refine isx (by decide) ?_)
  refine ⟨_, rfl, fun h1 => ?_, fun h1 => ⟨x, rfl, ?_⟩⟩
  · repeat (first | walk_at "ev" | refine isx (by decide) ?_)
    refine ⟨_, rfl, ⟨x, rfl, ?_⟩⟩
    cases x <;> first | rfl | (simp [isD, tyName, isTy] at h1)
  · cases x <;> first | rfl | (simp [isD, tyName, isTy] at h1)
def preNum : List D → Prop := fun ds => ∃ x lo hi, ds = [x, .int lo, .int hi] ∧ plD x = true
def postNum : List D → D → Prop := fun ds d => ∃ x lo hi, ds = [x, .int lo, .int hi] ∧ d = .bl (isNum x lo hi)
theorem ok_is_number {P : Program} {w : World} {K : PySem.W.Frag} {mg : Str → Option Value} {base : Heap} (T : Txt K mg) : FnOk P w K mg base CX0 2 T.f_is_number T.fd_is_number ["value", "least", "most"] (spD K preNum postNum) := by
  refine T.F_is_number.ok sc_is_number (spD_len fun ds ⟨x, lo, hi, e, _⟩ => by rw [e]; rfl) (fun cdv A outer s H vs Q E hr h => ?_)
  refine ⟨_, (pss_one (ps_ret (pe_and (pe_call (ok_is_whole T) (hr.mono (by decide)) rfl T.g_is_whole T.k_is_whole T.bd_is_whole .nil pass0 (pa_cons (pv 0) pa_nil)) (pe_one (pe_chain op_le op_le (pv 1) (pv 0) (pv 2)))))), ?_⟩
  refine enterD h fun M ds pre _ => ?_
  obtain ⟨x, lo, hi, rfl, px⟩ := pre
  refine do_ret (ev_and (ev_call (ea_cons (ev_var rfl (ea_nil ⟨⟨x, rfl, px⟩, fun d hd => ?_⟩)))))
  obtain ⟨x', e', rfl⟩ := hd
  cases e'
  refine ⟨_, rfl, fun h1 => ?_, fun h1 => ⟨x, lo, hi, rfl, ?_⟩⟩
  · obtain ⟨i, rfl⟩ : ∃ i, x = .int i := by
      cases x <;> first | exact ⟨_, rfl⟩ | cases h1
    repeat walk_at "ev"
    refine ⟨_, rfl, fun h3 => ?_, fun h3 => ⟨_, lo, hi, rfl, ?_⟩⟩
    · repeat walk_at "ev"
      refine ⟨_, lo, hi, rfl, ?_⟩
      simp only [isNum, h3, Bool.true_and]
    · simp only [isNum, h3, Bool.false_and]
  · cases x <;> first | rfl | cases h1

end Pf

set_option maxHeartbeats 16000000
namespace Pf
open PySem L2 PfL RZ
local macro_rules | `(tactic| walk_at "ev") => `(tactic| first
  | ((with_reducible refine' ev_var ?h ?_); (case h => rfl))
  | with_reducible refine ev_int ?_
  | with_reducible refine ev_bl ?_
  | with_reducible refine ev_str ?_
  | with_reducible refine ev_non ?_
  | with_reducible refine ev_ty ?_
  | with_reducible refine ev_op ?_
  | with_reducible refine ev_un ?_
  | with_reducible refine ev_chain ?_
  | with_reducible refine ev_if ?_
  | with_reducible refine ev_and ?_
  | with_reducible refine ev_or ?_
  | with_reducible refine ev_not ?_
  | with_reducible refine ev_lst ?_
  | with_reducible refine ev_tup ?_
  | with_reducible refine ea_nil ?_
  | with_reducible refine ea_cons ?_
  | with_reducible refine ev_cb ?_
  | with_reducible refine et_test ?_
  | with_reducible refine et_B ?_
  | with_reducible refine et_and ?_
  | with_reducible refine et_or ?_
  | with_reducible refine et_not ?_
  | with_reducible refine et_yes ?_
  | with_reducible refine eo_none ?_
  | with_reducible refine eo_some ?_
  | with_reducible refine ev_slS ?_
  | with_reducible refine od_int ?_
  | with_reducible refine od_bl ?_
  | with_reducible refine od_eq_int ?_
  | with_reducible refine od_ne_int ?_
  | with_reducible refine od_eq_bl ?_
  | with_reducible refine od_ne_bl ?_
  | with_reducible refine od_eq_str ?_
  | with_reducible refine od_ne_str ?_
  | with_reducible refine od_leS ?_
  | with_reducible refine ud_isN ?_
  | with_reducible refine ud_notN ?_
  | with_reducible refine do_seq ?_
  | with_reducible refine do_set ?_
  | with_reducible refine do_ret ?_
  | with_reducible refine do_retN ?_
  | with_reducible refine do_if ?_
  | with_reducible refine do_next ?_
  | with_reducible refine tg_name ?_
  | with_reducible refine tgs_nil ?_
  | with_reducible refine tgs_cons ?_)
def lower (c : Nat) : Bool := decide (97 ≤ c) && decide (c ≤ 122)
def isName (x : D) : Bool := match x with
  | .str z => decide (1 ≤ z.length) && decide (z.length ≤ 8) && z.cps.toList.all lower | _ => false
def preName : List D → Prop := fun ds => ∃ x, ds = [x] ∧ plD x = true ∧ ∀ z, x = .str z → z.length ≤ 1000
def postName : List D → D → Prop := fun ds d => ∃ x, ds = [x] ∧ d = .bl (isName x)
theorem lt_one {a b : Nat} : ([a] : List Nat) < [b] ↔ a < b := by
  constructor
  · intro h
    cases h with
    | rel h => exact h
    | cons h => cases h
  · intro h
    exact .rel h
theorem le_a {c : Nat} : (!decide (({ cps := #[c] } : Str).cps.toList < (Str.ofString "a").cps.toList)) = decide (97 ≤ c) := by
  have e : (Str.ofString "a").cps.toList = [97] := by decide +kernel
  rw [e]
  show (!decide ([c] < [97])) = _
  rw [decide_eq_decide.mpr (lt_one (a := c) (b := 97)), ← decide_not]
  exact decide_eq_decide.mpr (by omega)
theorem le_z {c : Nat} : (!decide ((Str.ofString "z").cps.toList < ({ cps := #[c] } : Str).cps.toList)) = decide (c ≤ 122) := by
  have e : (Str.ofString "z").cps.toList = [122] := by decide +kernel
  rw [e]
  show (!decide ([122] < [c])) = _
  rw [decide_eq_decide.mpr (lt_one (a := 122) (b := c)), ← decide_not]
  exact decide_eq_decide.mpr (by omega)
theorem ok_is_name {P : Program} {w : World} {K : PySem.W.Frag} {mg : Str → Option Value} {base : Heap} (T : Txt K mg) : FnOk P w K mg base CX0 2 T.f_is_name T.fd_is_name ["value"] (spD K preName postName) := by
  refine T.F_is_name.ok sc_is_name (spD_len fun ds ⟨x, e, _⟩ => by rw [e]; rfl) (fun cdv A outer s H vs Q E hr h => ?_)
  refine ⟨_, (pss_one (ps_ret (pe_and (pe_callB (callIsi K) (by rfl) T.b_isinstance (by decide +kernel) (pa_cons (pv 0) (pa_cons (pe_bltn (v := .ty "str") (by rfl) T.b_str (by decide +kernel) rfl) pa_nil))) (pe_and (pe_chain op_le op_le pe_int (pe_callB (callLen K) (by rfl) T.b_len (by decide +kernel) (pa_cons (pv 0) pa_nil)) pe_int) (pe_one (pe_callB (callAll K) (by rfl) T.b_all (by decide +kernel) (pa_cons (pe_lc (own := [("sign", 1)]) rfl sc_is_name.nd (pi_str (pv 0)) (blkOk_by (N := N_is_name) (sc := defScope s_is_name) (by decide +kernel)) (fun _ _ _ _ _ => (pg_name (i := 1) sc_is_name.nd rfl (Or.inl rfl))) (fun _ _ _ _ _ => pts_nil) (fun _ _ _ _ _ => (pe_chain op_le_str op_le_str pe_str (pv 1) pe_str))) pa_nil))))))), ?_⟩
  refine enterD h fun M ds pre _ => ?_
  obtain ⟨x, rfl, px, hz⟩ := pre
  obtain ⟨a, ha⟩ := ty_of px
  have isx : ∀ {n : String} {P : D → Prop}, n ∈ tyAsk → P (.bl (isD x n)) → CallD K (rIsi K) [x, .ty n] P := fun hn p => cd_isi ha hn p
  refine do_ret ?_
  repeat (first | walk_at "ev" | refine isx (by decide) ?_)
  refine ⟨_, rfl, fun h1 => ?_, fun h1 => ⟨x, rfl, ?_⟩⟩
  · obtain ⟨z, rfl⟩ : ∃ z, x = .str z := by
      cases x <;> first | exact ⟨_, rfl⟩ | (simp [isD, tyName, isTy] at h1)
    have hl := hz z rfl
    repeat (first | walk_at "ev" | refine cd_lenK (k := z.length) rfl (by omega) ?_)
    refine ⟨_, rfl, fun h2 => ?_, fun h2 => ?_⟩
    · repeat (first | walk_at "ev" | refine cd_lenK (k := z.length) rfl (by omega) ?_)
      refine ⟨_, rfl, fun h3 => ?_, fun h3 => ⟨_, rfl, ?_⟩⟩
      · refine ev_cb (ea_cons (EvN.ev ?_))
        refine en_lc (js := [1]) (PX := fun l => l = signs z) (it_str (ev_var rfl ⟨z, rfl, rfl⟩)) (fun l e => ?_) (by decide) (fun l i acc => acc = ((z.cps.toList.take i).map fun c => D.bl (lower c))) (fun l e => rfl) ?_ ?_
        · subst e
          unfold signs
          rw [List.length_map]
          have : z.cps.toList.length = z.length := by simp [Str.length]
          omega
        · rintro l i d acc rfl hi rfl
          unfold signs at hi
          rw [List.getElem?_map] at hi
          cases e : z.cps.toList[i]? with
          | none => rw [e] at hi; cases hi
          | some c =>
            rw [e] at hi
            obtain rfl : D.str ⟨#[c]⟩ = d := Option.some.inj hi
            refine tg_name (et_yes ⟨fun _ => ?_, fun h => nomatch h⟩)
            repeat walk_at "ev"
            have fin : ∀ b, b = lower c → List.map (fun c => D.bl (lower c)) (List.take i z.cps.toList) ++ [D.bl b] = List.map (fun c => D.bl (lower c)) (List.take (i + 1) z.cps.toList) := by
              rintro b rfl
              rw [List.take_succ, e]
              simp
            refine ⟨_, rfl, fun h4 => ?_, fun h4 => fin _ ?_⟩
            · repeat walk_at "ev"
              refine fin _ ?_
              rw [le_a] at h4
              rw [le_z]
              unfold lower
              rw [h4, Bool.true_and]
            · rw [le_a] at h4
              unfold lower
              rw [h4, Bool.false_and]
        · rintro l ds rfl rfl
          refine ea_nil ?_
          have : List.map (fun c => D.bl (lower c)) (List.take (signs z).length z.cps.toList) = blD (z.cps.toList.map lower) := by
            unfold signs blD
            rw [List.length_map, List.take_length, List.map_map]
            rfl
          rw [this]
          refine cd_all ⟨_, rfl, ?_⟩
          have h2' : decide (1 ≤ z.length) = true := by
            have := of_decide_eq_true h2
            exact decide_eq_true (by omega)
          have h3' : decide (z.length ≤ 8) = true := by
            have := of_decide_eq_true h3
            exact decide_eq_true (by omega)
          simp only [isName, h2', h3', Bool.true_and, List.all_map, Function.comp_def, id]
      · have h3' : decide (z.length ≤ 8) = false := by
          have := of_decide_eq_false h3
          exact decide_eq_false (by omega)
        simp only [isName, h3', Bool.and_false, Bool.false_and]
    · have h2' : decide (1 ≤ z.length) = false := by
        have := of_decide_eq_false h2
        exact decide_eq_false (by omega)
      refine ⟨_, rfl, (fun h => nomatch h), fun _ => ⟨_, rfl, ?_⟩⟩
      simp only [isName, h2', Bool.false_and]
  · cases x <;> first | rfl | (simp [isD, tyName, isTy] at h1)

section
variable {F : Fm} {δ : List SD} {ta tk : TA} {P : D → Prop} {E : XK}
theorem ev_num (h : EvA F ta δ fun ds => ∃ x lo hi, ds = [x, .int lo, .int hi] ∧ plD x = true ∧ P (.bl (isNum x lo hi))) : Ev F (tCall (spD F.K preNum postNum) [] E ta) δ P :=
  ev_call (h.imp fun ds ⟨x, lo, hi, e, h0, p⟩ => ⟨⟨x, lo, hi, e, h0⟩, fun d ⟨x', lo', hi', e', e2⟩ => by
    subst e
    cases e'
    subst e2
    exact p⟩)
theorem ev_nam (h : EvA F ta δ fun ds => ∃ x, ds = [x] ∧ plD x = true ∧ (∀ z, x = .str z → z.length ≤ 1000) ∧ P (.bl (isName x))) : Ev F (tCall (spD F.K preName postName) [] E ta) δ P :=
  ev_call (h.imp fun ds ⟨x, e, h0, h1, p⟩ => ⟨⟨x, e, h0, h1⟩, fun d ⟨x', e', e2⟩ => by
    subst e
    cases e'
    subst e2
    exact p⟩)
end
theorem isName_word {word : Str} (wc : ∀ c ∈ word.cps.toList, lower c = true) : isName (.str word) = (decide (1 ≤ word.length) && decide (word.length ≤ 8)) := by
  have e : word.cps.toList.all lower = true := List.all_eq_true.mpr wc
  simp only [isName, e, Bool.and_true]
/-! ### the law -/
def abc : Str := "abcdefghijklmnopqrstuvwxyz"
theorem mem_abc {c : Nat} : decide (c ∈ abc.cps.toList) = lower c := by
  have e : abc.cps.toList = [97, 98, 99, 100, 101, 102, 103, 104, 105, 106, 107, 108, 109, 110, 111, 112, 113, 114, 115, 116, 117, 118, 119, 120, 121, 122] := by decide +kernel
  rw [e]
  unfold lower
  rw [← Bool.decide_and]
  refine decide_eq_decide.mpr ⟨fun h => ?_, fun h => ?_⟩
  · simp only [List.mem_cons, List.not_mem_nil, or_false] at h
    omega
  · simp only [List.mem_cons, List.not_mem_nil, or_false]
    omega
/-! ### pairs and parts of groups, whatever they are -/
theorem isNum_yes {i lo hi : Int} (h0 : lo ≤ i) (h1 : i ≤ hi) : isNum (.int i) lo hi = true := by
  simp [isNum, h0, h1]
theorem ok_check_size {P : Program} {w : World} {K : PySem.W.Frag} {mg : Str → Option Value} {base : Heap} (T : Txt K mg) : FnOk P w K mg base CX0 12 T.f_check_size T.fd_check_size ["size"] (spD K (fun ds => ∃ i : Int, ds = [.int i] ∧ 1 ≤ i ∧ i ≤ 9) (fun _ d => d = .non)) := by
  refine T.F_check_size.ok sc_check_size (spD_len fun ds ⟨i, e, _⟩ => by rw [e]; rfl) (fun cdv A outer s H vs Q E hr h => ?_)
  refine ⟨_, (pss_one (ps_if (pt_not (pt_val (pe_call (ok_is_number T) (hr.mono (by decide)) rfl T.g_is_number T.k_is_number T.bd_is_number .nil pass0 (pa_cons (pv 0) (pa_cons pe_int (pa_cons (pe_glob (v := .int 9) rfl T.g__MOST_SIZE ⟨_, rfl⟩) pa_nil)))))) (pss_one ps_never) pss_nil)), ?_⟩
  refine enterD h fun M ds pre _ => ?_
  obtain ⟨i, rfl, h0, h1⟩ := pre
  refine do_if (et_not (et_test (ev_num (ea_cons (ev_var rfl (ea_cons (ev_int (ea_cons (ev_int (ea_nil ⟨_, _, _, rfl, rfl, _, rfl, fun h => ?_, fun h => do_next rfl⟩))))))))))
  rw [isNum_yes h0 h1] at h
  cases h
theorem ok__check_ask {P : Program} {w : World} {K : PySem.W.Frag} {mg : Str → Option Value} {base : Heap} (T : Txt K mg) : FnOk P w K mg base CX0 12 T.f__check_ask T.fd__check_ask ["ask"] (spD K (fun ds => ∃ i : Int, ds = [.int i] ∧ 1 ≤ i ∧ i ≤ 9) (fun _ d => d = .non)) := by
  refine T.F__check_ask.ok sc__check_ask (spD_len fun ds ⟨i, e, _⟩ => by rw [e]; rfl) (fun cdv A outer s H vs Q E hr h => ?_)
  refine ⟨_, (pss_one (ps_if (pt_not (pt_val (pe_call (ok_is_number T) (hr.mono (by decide)) rfl T.g_is_number T.k_is_number T.bd_is_number .nil pass0 (pa_cons (pv 0) (pa_cons pe_int (pa_cons (peCval K (pe_glob (v := .ref T.c_Reader) rfl T.g_Reader rfl)) pa_nil)))))) (pss_one ps_never) pss_nil)), ?_⟩
  refine enterD h fun M ds pre _ => ?_
  obtain ⟨i, rfl, h0, h1⟩ := pre
  obtain ⟨u, cv⟩ := T.cv_Reader_MOST_ASK
  refine do_if (et_not (et_test (ev_num (ea_cons (ev_var rfl (ea_cons (ev_int (ea_cons (ev_cval T.cr_Reader cv (ea_nil ⟨_, _, _, rfl, rfl, _, rfl, fun h => ?_, fun h => do_next rfl⟩) (ev_adr rfl))))))))))
  rw [isNum_yes h0 h1] at h
  cases h
/-! the ways -/
def ways : List Str := ["least", "greatest", "sum"]
theorem ev_gtup {F : Fm} {δ : List SD} {a : Addr} {zs : List Str} {P : D → Prop} (sq : ∀ H, SqT F.K H a (zs.map V.str)) (p : P (.tup (txsD zs))) : Ev F (tC (.ref a)) δ P := fun M σ H Q c q => by
  refine q (.ref a) _ H p c (StepB.refl _ _) (.tup (sq _) ?_)
  have : ∀ zs : List Str, RepL F.K (hd M H) (zs.map V.str) (txsD zs) := fun zs => by
    induction zs with
    | nil => exact .nil
    | cons z zs ih => exact .cons (.str z) ih
  exact this zs
theorem ok__check_way {P : Program} {w : World} {K : PySem.W.Frag} {mg : Str → Option Value} {base : Heap} (T : Txt K mg) : FnOk P w K mg base CX0 12 T.f__check_way T.fd__check_way ["way"] (spD K (fun ds => ∃ y : Str, ds = [.str y] ∧ inTx ways (.str y) = true) (fun _ d => d = .non)) := by
  refine T.F__check_way.ok sc__check_way (spD_len fun ds ⟨i, e, _⟩ => by rw [e]; rfl) (fun cdv A outer s H vs Q E hr h => ?_)
  refine ⟨_, (pss_one (ps_if (pt_cmpR ((op_ninTx K (units65 hr))) (pv 0) (pe_glob (v := .ref T.a_WAYS) rfl T.g_WAYS rfl) (by with_unfolding_all rfl)) (pss_one ps_never) pss_nil)), ?_⟩
  refine enterD h fun M ds pre _ => ?_
  obtain ⟨y, rfl, hy⟩ := pre
  refine do_if (et_test (ev_op (ev_var (d := .str y) rfl (ev_gtup (zs := ways) T.sq_WAYS (od_ninTx rfl ⟨_, rfl, fun h => ?_, fun h => do_next rfl⟩)))))
  rw [hy] at h
  cases h
/-! pairs -/
def isPair (v : D) : Bool := match v with
  | .tup [a, b] => isWh a && isName b
  | _ => false
def txOk (v : D) : Prop := ∀ a z, v = .tup [a, .str z] → z.length ≤ 1000
theorem ok__is_pair {P : Program} {w : World} {K : PySem.W.Frag} {mg : Str → Option Value} {base : Heap} (T : Txt K mg) : FnOk P w K mg base CX0 8 T.f__is_pair T.fd__is_pair ["value"] (spD K (fun ds => ∃ v, ds = [v] ∧ plD v = true ∧ txOk v) (fun ds d => ∃ v, ds = [v] ∧ d = .bl (isPair v))) := by
  refine T.F__is_pair.ok sc__is_pair (spD_len fun ds ⟨v, e, _⟩ => by rw [e]; rfl) (fun cdv A outer s H vs Q E hr h => ?_)
  refine ⟨_, (pss_one (ps_ret (pe_and (pe_callB (callIsi K) (by rfl) T.b_isinstance (by decide +kernel) (pa_cons (pv 0) (pa_cons (pe_bltn (v := .ty "tuple") (by rfl) T.b_tuple (by decide +kernel) rfl) pa_nil))) (pe_and (pe_cmpR op_eq (pe_callB (callLen K) (by rfl) T.b_len (by decide +kernel) (pa_cons (pv 0) pa_nil)) pe_int (nomark _)) (pe_and (pe_call (ok_is_whole T) (hr.mono (by decide)) rfl T.g_is_whole T.k_is_whole T.bd_is_whole .nil pass0 (pa_cons (pe_ix (ixT K) (pv 0) pe_int (fun _ _ => rfl)) pa_nil)) (pe_one (pe_call (ok_is_name T) (hr.mono (by decide)) rfl T.g_is_name T.k_is_name T.bd_is_name .nil pass0 (pa_cons (pe_ix (ixT K) (pv 0) pe_int (fun _ _ => rfl)) pa_nil)))))))), ?_⟩
  refine enterD h fun M ds pre _ => ?_
  obtain ⟨v, rfl, pv, tx⟩ := pre
  obtain ⟨ty, hty⟩ : ∃ a, tyName v = some a := by cases v <;> first | exact ⟨_, rfl⟩ | cases pv
  refine do_ret (ev_and (ev_cb (ea_cons (ev_var rfl (ea_cons (ev_ty (ea_nil (cd_isi hty (by decide) ⟨_, rfl, fun hb => ?_, fun hb => ⟨v, rfl, ?_⟩⟩))))))))
  rotate_left
  · cases v with
    | tup zs =>
      have ht : isD (.tup zs) "tuple" = true := by rfl
      rw [ht] at hb
      cases hb
    | _ => rfl
  obtain ⟨zs, rfl⟩ : ∃ zs, v = .tup zs := by
    cases v with
    | tup zs => exact ⟨zs, rfl⟩
    | _ => cases hb
  have px' : zs.length ≤ 10000 ∧ plL zs = true := by
    simp only [plD, Bool.and_eq_true, decide_eq_true_eq] at pv
    exact pv
  refine ev_and (ev_op (ev_cb (ea_cons (ev_var rfl (ea_nil (cd_lenK (k := zs.length) rfl (by omega) (ev_int (od_eq_int ⟨_, rfl, fun h2 => ?_, fun h2 => ⟨.tup zs, rfl, ?_⟩⟩))))))))
  rotate_left
  · have h2 : ¬ (zs.length : Int) = 2 := by simpa using h2
    rcases zs with _ | ⟨a, _ | ⟨b, _ | ⟨c, zs⟩⟩⟩
    · rfl
    · rfl
    · exact absurd rfl h2
    · rfl
  have h2 : (zs.length : Int) = 2 := by simpa using h2
  obtain ⟨a, b, rfl⟩ : ∃ a b, zs = [a, b] := by
    rcases zs with _ | ⟨a, _ | ⟨b, _ | ⟨c, zs⟩⟩⟩
    · simp at h2
    · simp at h2
    · exact ⟨a, b, rfl⟩
    · simp at h2
      omega
  have pab : plD a = true ∧ plD b = true := by
    have := px'.2
    simp only [plL, Bool.and_eq_true, Bool.and_true] at this
    exact ⟨this.1, this.2⟩
  refine ev_and (ev_call (ea_cons (ev_op (ev_var rfl (ev_int (od_ixT (d := a) rfl (ea_nil ⟨⟨a, rfl, pab.1⟩, fun d hd => ?_⟩)))))))
  obtain ⟨x, e, rfl⟩ := hd
  cases e
  refine ⟨_, rfl, fun ha => ?_, fun ha => ⟨_, rfl, by simp only [isPair, ha, Bool.false_and]⟩⟩
  refine ev_nam (ea_cons (ev_op (ev_var rfl (ev_int (od_ixT (d := b) rfl (ea_nil ⟨b, rfl, pab.2, fun z e => tx a z (by rw [e]), _, rfl, ?_⟩))))))
  simp only [isPair, ha, Bool.true_and]

end Pf

set_option maxHeartbeats 16000000
namespace Pf
open PySem L2 PfL RZ
local macro_rules | `(tactic| walk_at "ev") => `(tactic| first
  | ((with_reducible refine' ev_var ?h ?_); (case h => rfl))
  | with_reducible refine ev_int ?_
  | with_reducible refine ev_bl ?_
  | with_reducible refine ev_str ?_
  | with_reducible refine ev_non ?_
  | with_reducible refine ev_ty ?_
  | with_reducible refine ev_op ?_
  | with_reducible refine ev_un ?_
  | with_reducible refine ev_chain ?_
  | with_reducible refine ev_if ?_
  | with_reducible refine ev_and ?_
  | with_reducible refine ev_or ?_
  | with_reducible refine ev_not ?_
  | with_reducible refine ev_lst ?_
  | with_reducible refine ev_tup ?_
  | with_reducible refine ea_nil ?_
  | with_reducible refine ea_cons ?_
  | with_reducible refine ev_cb ?_
  | with_reducible refine et_test ?_
  | with_reducible refine et_B ?_
  | with_reducible refine et_and ?_
  | with_reducible refine et_or ?_
  | with_reducible refine et_not ?_
  | with_reducible refine et_yes ?_
  | with_reducible refine eo_none ?_
  | with_reducible refine eo_some ?_
  | with_reducible refine ev_slS ?_
  | with_reducible refine od_int ?_
  | with_reducible refine od_bl ?_
  | with_reducible refine od_eq_int ?_
  | with_reducible refine od_ne_int ?_
  | with_reducible refine od_eq_bl ?_
  | with_reducible refine od_ne_bl ?_
  | with_reducible refine od_eq_str ?_
  | with_reducible refine od_ne_str ?_
  | with_reducible refine od_leS ?_
  | with_reducible refine ud_isN ?_
  | with_reducible refine ud_notN ?_
  | with_reducible refine do_seq ?_
  | with_reducible refine do_set ?_
  | with_reducible refine do_ret ?_
  | with_reducible refine do_retN ?_
  | with_reducible refine do_if ?_
  | with_reducible refine do_next ?_
  | with_reducible refine tg_name ?_
  | with_reducible refine tgs_nil ?_
  | with_reducible refine tgs_cons ?_)
/-! parts of groups -/
def itemsOf : D → Option (List D)
  | .lst zs => some zs
  | .tup zs => some zs
  | _ => none
def nmOf : D → Str
  | .tup [_, .str z] => z
  | _ => Str.empty
def nmD (zs : List D) : List (Key × D) := zs.foldl (fun acc z => putD acc (.inr (nmOf z)) (.bl true)) []
theorem nmD_snoc (zs : List D) (z : D) : nmD (zs ++ [z]) = putD (nmD zs) (.inr (nmOf z)) (.bl true) := by simp [nmD, List.foldl_append]
def areG (v : D) : Bool := match itemsOf v with
  | some zs => zs.all isPair && decide ((nmD zs).length = zs.length)
  | none => false
theorem pair_of {v : D} (h : isPair v = true) : ∃ a z, v = .tup [.int a, .str z] := by
  unfold isPair at h
  split at h
  · rename_i a b
    simp only [Bool.and_eq_true] at h
    obtain ⟨h1, h2⟩ := h
    cases a <;> first | cases h1 | skip
    cases b <;> first | cases h2 | skip
    exact ⟨_, _, rfl⟩
  · cases h
theorem plL_mem {xs : List D} (h : plL xs = true) : ∀ x ∈ xs, plD x = true := by
  induction xs with
  | nil => intro x hx; cases hx
  | cons y xs ih =>
    have h : (plD y && plL xs) = true := h
    rw [Bool.and_eq_true] at h
    intro x hx
    rcases List.mem_cons.mp hx with rfl | hx
    · exact h.1
    · exact ih h.2 x hx
theorem nmD_len : ∀ zs : List D, (nmD zs).length ≤ zs.length := fun zs => by
  have key : ∀ (zs : List D) (acc : List (Key × D)), (zs.foldl (fun acc z => putD acc (.inr (nmOf z)) (.bl true)) acc).length ≤ acc.length + zs.length := by
    intro zs
    induction zs with
    | nil => intro acc; simp
    | cons z zs ih =>
      intro acc
      have h1 := ih (putD acc (.inr (nmOf z)) (.bl true))
      have h2 := putD_len (kvs := acc) (k := .inr (nmOf z)) (d := .bl true)
      simp only [List.foldl_cons, List.length_cons]
      omega
  have := key zs []
  simpa [nmD] using this
theorem ok__are_groups {P : Program} {w : World} {K : PySem.W.Frag} {mg : Str → Option Value} {base : Heap} (T : Txt K mg) : FnOk P w K mg base CX0 10 T.f__are_groups T.fd__are_groups ["value"] (spD K (fun ds => ∃ v, ds = [v] ∧ plD v = true ∧ ∀ zs, itemsOf v = some zs → ∀ z ∈ zs, txOk z) (fun ds d => ∃ v, ds = [v] ∧ d = .bl (areG v))) := by
  refine T.F__are_groups.ok sc__are_groups (spD_len fun ds ⟨v, e, _⟩ => by rw [e]; rfl) (fun cdv A outer s H vs Q E hr h => ?_)
  refine ⟨_, (pss_one (ps_ret (pe_and (pe_callB (callIsiT K) (by rfl) T.b_isinstance (by decide +kernel) (pa_cons (pv 0) (pa_cons (pe_tup (pa_cons (pe_bltn (v := .ty "list") (by rfl) T.b_list (by decide +kernel) rfl) (pa_cons (pe_bltn (v := .ty "tuple") (by rfl) T.b_tuple (by decide +kernel) rfl) pa_nil))) pa_nil))) (pe_and (pe_callB (callAll K) (by rfl) T.b_all (by decide +kernel) (pa_cons (pe_lc (own := [("pair", 1)]) rfl sc__are_groups.nd (piS K (pv 0)) (blkOk_by (N := N__are_groups) (sc := defScope s__are_groups) (by decide +kernel)) (fun _ _ _ _ _ => (pg_name (i := 1) sc__are_groups.nd rfl (Or.inl rfl))) (fun _ _ _ _ _ => pts_nil) (fun _ _ _ _ _ => (pe_call (ok__is_pair T) (hr.mono (by decide)) rfl T.g__is_pair T.k__is_pair T.bd__is_pair .nil pass0 (pa_cons (pv 1) pa_nil)))) pa_nil)) (pe_one (pe_cmpR op_eq (pe_callB callLenD (by rfl) T.b_len (by decide +kernel) (pa_cons (pe_dc (own := [("pair", 1)]) rfl sc__are_groups.nd (piS K (pv 0)) (blkOk_by (N := N__are_groups) (sc := defScope s__are_groups) (by decide +kernel)) (fun _ _ _ _ _ => (pg_name (i := 1) sc__are_groups.nd rfl (Or.inl rfl))) (fun _ _ _ _ _ => pts_nil) (fun _ _ _ _ _ => (pe_ix (ixT K) (pv 1) pe_int (fun _ _ => rfl))) (fun _ _ _ _ _ => pe_bl)) pa_nil)) (pe_callB (callLen K) (by rfl) T.b_len (by decide +kernel) (pa_cons (pv 0) pa_nil)) (nomark _))))))), ?_⟩
  refine enterD h fun M ds pre _ => ?_
  obtain ⟨v, rfl, pv, tx⟩ := pre
  obtain ⟨ty, hty⟩ : ∃ a, tyName v = some a := by cases v <;> first | exact ⟨_, rfl⟩ | cases pv
  refine do_ret (ev_and (ev_isiT (ev_var rfl (ea_cons (ev_ty (ea_cons (ev_ty (ea_nil ⟨rfl, ty, hty, ⟨_, rfl, fun hb => ?_, fun hb => ⟨v, rfl, ?_⟩⟩⟩))))))))
  rotate_left
  · cases v <;> first | rfl | (cases hty; simp [isTy] at hb) | cases pv
  obtain ⟨zs, hv, hz⟩ : ∃ zs, (v = .lst zs ∨ v = .tup zs) ∧ itemsOf v = some zs := by
    cases v <;> first | exact ⟨_, .inl rfl, rfl⟩ | exact ⟨_, .inr rfl, rfl⟩ | (cases hty; simp [isTy] at hb) | cases pv
  have px' : zs.length ≤ 10000 ∧ plL zs = true := by
    rcases hv with rfl | rfl
    all_goals
      simp only [plD, Bool.and_eq_true, decide_eq_true_eq] at pv
      exact pv
  have tx' := tx zs hz
  have it : ∀ {F : Fm} {δ : List SD}, F.K = K → δ[0]? = some (.dat v) → ItD F (iSeq F.K (tVar 0)) δ (fun l => l = zs) := fun {F δ} hK h0 => by
    rcases hv with rfl | rfl
    · exact it_seqL (ev_var h0 ⟨_, rfl, rfl⟩)
    · exact it_seqT (ev_var h0 ⟨_, rfl, rfl⟩)
  refine ev_and (ev_cb (ea_cons (EvN.ev ?_)))
  refine en_lc (js := [1]) (PX := fun l => l = zs) (it rfl rfl) (fun l e => by rw [e]; omega) (by decide) (fun l i acc => acc = blD ((zs.take i).map isPair)) (fun l e => rfl) ?_ ?_
  · rintro l i z acc rfl hi rfl
    have hm := List.mem_of_getElem? hi
    refine tg_name (et_yes ⟨fun _ => ?_, fun h => nomatch h⟩)
    refine ev_call (ea_cons (ev_var rfl (ea_nil ⟨⟨z, rfl, plL_mem px'.2 z hm, tx' z hm⟩, fun d hd => ?_⟩)))
    obtain ⟨z', e, rfl⟩ := hd
    cases e
    rw [List.take_succ, hi]
    simp [blD]
  rintro l ds rfl rfl
  rw [List.take_length]
  refine ea_nil (cd_all ⟨_, rfl, fun ha => ?_, fun ha => ⟨v, rfl, ?_⟩⟩)
  rotate_left
  · have ha : (l.map isPair).all id = false := ha
    rw [List.all_map] at ha
    have ha : l.all isPair = false := ha
    unfold areG
    rw [hz]
    simp only [ha, Bool.false_and]
  have ha : l.all isPair = true := by
    have ha : (l.map isPair).all id = true := ha
    rw [List.all_map] at ha
    exact ha
  have hall := List.all_eq_true.mp ha
  refine ev_op (ev_cb (ea_cons (ev_dc (js := [1]) (PX := fun l' => l' = l) (it rfl rfl) (fun l' e => by rw [e]; omega) (by decide) (fun l' i acc => acc = nmD (l.take i)) (fun l' e => rfl) ?_ ?_)))
  · rintro l' i z acc rfl hi rfl
    obtain ⟨a, n, rfl⟩ := pair_of (hall z (List.mem_of_getElem? hi))
    refine tg_name (et_yes ⟨fun _ => ?_, fun h => nomatch h⟩)
    refine ev_op (ev_var rfl (ev_int (od_ixT (d := .str n) rfl (ev_bl ⟨.inr n, rfl, ?_⟩))))
    rw [List.take_succ, hi]
    exact (nmD_snoc (l'.take i) (.tup [.int a, .str n])).symm
  rintro l' ds rfl rfl
  rw [List.take_length]
  have hn := nmD_len l'
  refine ea_nil (cd_lenD (ev_cb (ea_cons (ev_var rfl (ea_nil (cd_lenK (k := l'.length) (by rcases hv with rfl | rfl <;> rfl) (by omega) (od_eq_int ⟨v, rfl, ?_⟩)))))))
  unfold areG
  rw [hz]
  simp only [ha, Bool.true_and]
  congr 1
  exact decide_eq_decide.mpr (by omega)

end Pf

set_option maxHeartbeats 16000000
namespace Pf
open PySem L2 PfL RZ
local macro_rules | `(tactic| walk_at "ev") => `(tactic| first
  | ((with_reducible refine' ev_var ?h ?_); (case h => rfl))
  | with_reducible refine ev_int ?_
  | with_reducible refine ev_bl ?_
  | with_reducible refine ev_str ?_
  | with_reducible refine ev_non ?_
  | with_reducible refine ev_ty ?_
  | with_reducible refine ev_op ?_
  | with_reducible refine ev_un ?_
  | with_reducible refine ev_chain ?_
  | with_reducible refine ev_if ?_
  | with_reducible refine ev_and ?_
  | with_reducible refine ev_or ?_
  | with_reducible refine ev_not ?_
  | with_reducible refine ev_lst ?_
  | with_reducible refine ev_tup ?_
  | with_reducible refine ea_nil ?_
  | with_reducible refine ea_cons ?_
  | with_reducible refine ev_cb ?_
  | with_reducible refine et_test ?_
  | with_reducible refine et_B ?_
  | with_reducible refine et_and ?_
  | with_reducible refine et_or ?_
  | with_reducible refine et_not ?_
  | with_reducible refine et_yes ?_
  | with_reducible refine eo_none ?_
  | with_reducible refine eo_some ?_
  | with_reducible refine ev_slS ?_
  | with_reducible refine od_int ?_
  | with_reducible refine od_bl ?_
  | with_reducible refine od_eq_int ?_
  | with_reducible refine od_ne_int ?_
  | with_reducible refine od_eq_bl ?_
  | with_reducible refine od_ne_bl ?_
  | with_reducible refine od_eq_str ?_
  | with_reducible refine od_ne_str ?_
  | with_reducible refine od_leS ?_
  | with_reducible refine ud_isN ?_
  | with_reducible refine ud_notN ?_
  | with_reducible refine do_seq ?_
  | with_reducible refine do_set ?_
  | with_reducible refine do_ret ?_
  | with_reducible refine do_retN ?_
  | with_reducible refine do_if ?_
  | with_reducible refine do_next ?_
  | with_reducible refine tg_name ?_
  | with_reducible refine tgs_nil ?_
  | with_reducible refine tgs_cons ?_)
/-! ### groups as lists of a total and a name -/
abbrev Gr := List (Int × Str)
def unG : D → Int × Str
  | .tup [.int a, .str z] => (a, z)
  | _ => (0, Str.empty)
theorem unG_map (g : Gr) : (g.map gD).map unG = g := by
  rw [List.map_map]
  conv => rhs; rw [← List.map_id g]
  exact List.map_congr_left fun p _ => rfl
def grOf (v : D) : Gr := ((itemsOf v).getD []).map unG
def GrV (v : D) : Prop := v = .lst ((grOf v).map gD) ∨ v = .tup ((grOf v).map gD)
theorem grV_items {v : D} (h : GrV v) : itemsOf v = some ((grOf v).map gD) := by
  rcases h with h | h
  all_goals
    generalize (grOf v).map gD = w at h
    subst h
    rfl
theorem grOf_lst (g : Gr) : grOf (.lst (g.map gD)) = g := unG_map g
theorem grV_lst (g : Gr) : GrV (.lst (g.map gD)) := .inl (by rw [grOf_lst])
theorem grV_of {v : D} {zs : List D} (hz : itemsOf v = some zs) (h : zs.all isPair = true) : GrV v := by
  have e : (grOf v).map gD = zs := by
    unfold grOf
    rw [hz]
    show (zs.map unG).map gD = zs
    rw [List.map_map]
    conv => rhs; rw [← List.map_id zs]
    refine List.map_congr_left fun z hm => ?_
    obtain ⟨a, n, rfl⟩ := pair_of (List.all_eq_true.mp h z hm)
    rfl
  unfold GrV
  rw [e]
  cases v <;> first | cases hz | skip
  · exact .inl rfl
  · exact .inr rfl
theorem areG_grV {v : D} (h : areG v = true) : GrV v := by
  unfold areG at h
  split at h
  · rename_i zs hz
    rw [Bool.and_eq_true] at h
    exact grV_of hz h.1
  · cases h
/-! totals -/
def getT (t : Gr) (z : Str) : Option Int := (t.find? fun p => decide (p.2 = z)).map Prod.fst
def setT (t : Gr) (z : Str) (a : Int) : Gr := if (t.any fun p => decide (p.2 = z)) = true then t.map (fun p => if p.2 = z then (a, p.2) else p) else t ++ [(a, z)]
def tD (t : Gr) : List (Key × D) := t.map fun p => (.inr p.2, .int p.1)
theorem key_dec {a b : Str} : decide ((Sum.inr a : Key) = .inr b) = decide (a = b) := decide_eq_decide.mpr ⟨fun h => by cases h; rfl, fun h => by rw [h]⟩
theorem tD_val (t : Gr) (z : Str) : valD (tD t) (.inr z) = (getT t z).map .int := by
  unfold valD getT tD
  induction t with
  | nil => rfl
  | cons p t ih =>
    simp only [List.map_cons, List.find?_cons, key_dec]
    by_cases h : p.2 = z
    · simp only [h, decide_true]
      rfl
    · simp only [h, decide_false]
      exact ih
theorem tD_put (t : Gr) (z : Str) (a : Int) : putD (tD t) (.inr z) (.int a) = tD (setT t z a) := by
  have e : ((tD t).any fun kv => decide (kv.1 = .inr z)) = (t.any fun p => decide (p.2 = z)) := by
    unfold tD
    rw [List.any_map]
    congr 1
    funext p
    exact key_dec
  unfold putD setT
  rw [e]
  by_cases h : (t.any fun p => decide (p.2 = z)) = true
  · rw [if_pos h, if_pos h]
    unfold tD
    rw [List.map_map, List.map_map]
    refine List.map_congr_left fun p _ => ?_
    simp only [Function.comp_apply]
    by_cases h2 : p.2 = z
    · rw [if_pos h2, if_pos (by rw [h2])]
    · rw [if_neg h2, if_neg fun e => h2 (by cases e; rfl)]
  · rw [if_neg h, if_neg h]
    unfold tD
    rw [List.map_append]
    rfl
theorem setT_len (t : Gr) (z : Str) (a : Int) : (setT t z a).length ≤ t.length + 1 := by
  unfold setT
  split
  · rw [List.length_map]
    omega
  · simp
def joinG (way : Str) (a b : Int) : Int := if way = "least" then min a b else if way = "greatest" then max a b else a + b
def putG (way : Str) (t : Gr) (p : Int × Str) : Gr := setT t p.2 (match getT t p.2 with | some a => joinG way a p.1 | none => p.1)
def totsOf (way : Str) (gs : List Gr) : Gr := gs.foldl (fun t g => g.foldl (putG way) t) []
theorem putG_len (way : Str) (g t : Gr) : (g.foldl (putG way) t).length ≤ t.length + g.length := by
  induction g generalizing t with
  | nil => simp
  | cons p g ih =>
    have h1 := ih (putG way t p)
    have h2 := setT_len t p.2 (match getT t p.2 with | some a => joinG way a p.1 | none => p.1)
    have h3 : (putG way t p).length ≤ t.length + 1 := h2
    simp only [List.foldl_cons, List.length_cons]
    omega
theorem totsOf_len {way : Str} {gs : List Gr} (h : ∀ g ∈ gs, g.length ≤ 1000) : (totsOf way gs).length ≤ 1000 * gs.length := by
  have key : ∀ (gs : List Gr) (t : Gr), (∀ g ∈ gs, g.length ≤ 1000) → (gs.foldl (fun t g => g.foldl (putG way) t) t).length ≤ t.length + 1000 * gs.length := by
    intro gs
    induction gs with
    | nil => intro t _; simp
    | cons g gs ih =>
      intro t h
      have h1 := ih (g.foldl (putG way) t) fun g' hg => h g' (List.mem_cons_of_mem _ hg)
      have h2 := putG_len way g t
      have h3 := h g (by simp)
      simp only [List.foldl_cons, List.length_cons]
      omega
  have := key gs [] h
  simpa [totsOf] using this
def sortG (ps : Gr) : Gr := ps.mergeSort (PySem.W.dataLe false fun p : Int × Str => pyd (gD p))
theorem sortD_g (ps : Gr) : sortD (ps.map gD) = (sortG ps).map gD := by
  unfold sortD sortG
  exact (PySem.W.sort_maps gD fun a _ b _ => rfl).symm
theorem sortG_perm (ps : Gr) : (sortG ps).Perm ps := List.mergeSort_perm _ _
theorem sortG_len (ps : Gr) : (sortG ps).length = ps.length := (sortG_perm ps).length_eq
def firstG (way : Str) (gs : List Gr) (n : Int) : Gr := (sortG (totsOf way gs)).take n.toNat
theorem firstG_len {way : Str} {gs : List Gr} {n : Int} (h : 0 ≤ n) : ((firstG way gs n).length : Int) ≤ n := by
  unfold firstG
  rw [List.length_take]
  omega
theorem cut_nat {xs : List D} {n : Int} (h : 0 ≤ n) : cutD xs none (some n) = xs.take n.toNat := by
  obtain ⟨k, rfl⟩ := Int.eq_ofNat_of_zero_le h
  unfold cutD
  rw [HT.sIx_none, HT.sIx_nat, List.drop_zero, Nat.sub_zero, Int.toNat_natCast]
  by_cases h2 : k ≤ xs.length
  · rw [Nat.min_eq_left h2]
  · rw [Nat.min_eq_right (by omega), List.take_length, List.take_of_length_le (by omega)]
theorem ok__joined {P : Program} {w : World} {K : PySem.W.Frag} {mg : Str → Option Value} {base : Heap} (T : Txt K mg) : FnOk P w K mg base CX0 6 T.f__joined T.fd__joined ["one", "other", "way"] (spD K (fun ds => ∃ a b y, ds = [.int a, .int b, .str y]) (fun ds d => ∃ a b y, ds = [.int a, .int b, .str y] ∧ d = .int (joinG y a b))) := by
  refine T.F__joined.ok sc__joined (spD_len fun ds ⟨a, b, y, e⟩ => by rw [e]; rfl) (fun cdv A outer s H vs Q E hr h => ?_)
  refine ⟨_, (pss_cons (ps_if (pt_cmpR op_eq (pv 2) pe_str (nomark _)) (pss_one (ps_ret (pe_callB callMin2 (by rfl) T.b_min (by decide +kernel) (pa_cons (pv 0) (pa_cons (pv 1) pa_nil))))) pss_nil)
    (pss_cons (ps_if (pt_cmpR op_eq (pv 2) pe_str (nomark _)) (pss_one (ps_ret (pe_callB callMax2 (by rfl) T.b_max (by decide +kernel) (pa_cons (pv 0) (pa_cons (pv 1) pa_nil))))) pss_nil)
    (pss_one (ps_ret (pe_op op_add (pv 0) (pv 1)))))), ?_⟩
  refine enterD h fun M ds pre _ => ?_
  obtain ⟨a, b, y, rfl⟩ := pre
  refine do_seq (do_if (et_B (ev_op (ev_var rfl (ev_str (od_eq_str ⟨_, rfl, fun h1 => ?_, fun h1 => do_next ?_⟩))))))
  · refine do_ret (ev_cb (ea_cons (ev_var rfl (ea_cons (ev_var rfl (ea_nil (cd_minI ⟨a, b, y, rfl, ?_⟩)))))))
    rw [joinG, if_pos (of_decide_eq_true h1)]
  refine do_seq (do_if (et_B (ev_op (ev_var rfl (ev_str (od_eq_str ⟨_, rfl, fun h2 => ?_, fun h2 => do_next ?_⟩))))))
  · refine do_ret (ev_cb (ea_cons (ev_var rfl (ea_cons (ev_var rfl (ea_nil (cd_maxI ⟨a, b, y, rfl, ?_⟩)))))))
    rw [joinG, if_neg (of_decide_eq_false h1), if_pos (of_decide_eq_true h2)]
  refine do_ret (ev_op (ev_var rfl (ev_var rfl (od_int ⟨a, b, y, rfl, ?_⟩))))
  rw [joinG, if_neg (of_decide_eq_false h1), if_neg (of_decide_eq_false h2)]
/-- parts, as they may stand where totals are made -/
structure PartsV (v : D) (zs : List D) : Prop where
  is : v = .lst zs ∨ v = .tup zs
  gr : ∀ z ∈ zs, GrV z
  n : zs.length ≤ 10
  m : ∀ z ∈ zs, (grOf z).length ≤ 1000
def preFt : List D → Prop := fun ds => ∃ v zs n y, ds = [v, .int n, .str y] ∧ PartsV v zs ∧ 0 ≤ n
def poFt : List D → D → Prop := fun ds d => ∃ v n y, ds = [v, .int n, .str y] ∧ d = .lst ((firstG y (((itemsOf v).getD []).map grOf) n).map gD)
theorem PartsV.items {v : D} {zs : List D} (h : PartsV v zs) : itemsOf v = some zs := by
  rcases h.is with rfl | rfl <;> rfl
theorem it_seqLT {F : Fm} {δ : List SD} {te : TE} {PX : List D → Prop} {v : D} {zs : List D} (hv : v = .lst zs ∨ v = .tup zs) (hp : PX zs) (h : Ev F te δ (· = v)) : ItD F (iSeq F.K te) δ PX := by
  rcases hv with rfl | rfl
  · exact it_seqL (h.imp fun d e => ⟨zs, e, hp⟩)
  · exact it_seqT (h.imp fun d e => ⟨zs, e, hp⟩)
def poFn : List D → List D → Prop := fun ds es => ∃ v n y, ds = [v, .int n, .str y] ∧ es = (firstG y (((itemsOf v).getD []).map grOf) n).map gD
theorem ok__first_totals {P : Program} {w : World} {K : PySem.W.Frag} {mg : Str → Option Value} {base : Heap} (T : Txt K mg) : FnOk P w K mg base CX0 10 T.f__first_totals T.fd__first_totals ["parts", "size", "way"] (spN K preFt poFn) := by
  refine T.F__first_totals.ok sc__first_totals (spN_len fun ds ⟨v, zs, n, y, e, _⟩ => by rw [e]; rfl) (fun cdv A outer s H vs Q E hr h => ?_)
  refine ⟨_, (pss_cons (ps_set (i := 3) sc__first_totals.nd rfl (Or.inl rfl) pe_dnewK)
    (pss_cons (ps_for PassesOwn.never rfl (piS K (pv 0)) (pg_name (i := 4) sc__first_totals.nd rfl (Or.inl rfl))
      (pss_one (ps_for PassesOwn.never rfl (piS K (pv 4)) (pgTup K (n := 2) rfl (pgs_cons (pg_name (i := 5) sc__first_totals.nd rfl (Or.inl rfl)) (pgs_cons (pg_name (i := 6) sc__first_totals.nd rfl (Or.inl rfl)) pgs_nil)))
        (pss_one (ps_dput (hu_of hr) (pv 3) (pv 6) (pe_ifExp (pt_cmp (pc_din (hu_of hr) (pv 6) (pv 3))) (pe_call (ok__joined T) (hr.mono (by decide)) rfl T.g__joined T.k__joined T.bd__joined .nil pass0 (pa_cons (pe_dget (hu_of hr) (pv 3) (pv 6) (fun _ _ => rfl)) (pa_cons (pv 5) (pa_cons (pv 2) pa_nil)))) (pv 5)) rfl)))))
    (pss_one (ps_ret (pe_slice (slL K) (pe_callB (cr_sortA K hr.units) (by rfl) T.b_sorted (by decide +kernel) (pa_cons (pe_lock (pe_lc (own := [("name", 6), ("total", 7)]) rfl sc__first_totals.nd (pi_items (pv 3)) (blkOk_by (N := N__first_totals) (sc := defScope s__first_totals) (by decide +kernel)) (fun _ _ _ _ _ => (pgTup K (n := 2) rfl (pgs_cons (pg_name (i := 6) sc__first_totals.nd rfl (Or.inl rfl)) (pgs_cons (pg_name (i := 7) sc__first_totals.nd rfl (Or.inl rfl)) pgs_nil)))) (fun _ _ _ _ _ => pts_nil) (fun _ _ _ _ _ => (pe_tup (pa_cons (pv 7) (pa_cons (pv 6) pa_nil)))))) pa_nil)) po_none (po_some (pv 1))))))), ?_⟩
  refine enterNN h fun M ds pre _ => ?_
  obtain ⟨v, zs, n, y, rfl, hv, hn⟩ := pre
  refine dn_seq (do_ownDic fun p => ?_)
  have lens : ∀ (i : Nat), (totsOf y ((zs.take i).map grOf)).length ≤ 10000 := fun i => by
    have := totsOf_len (way := y) (gs := (zs.take i).map grOf) fun g hg => by
      obtain ⟨z, hz, rfl⟩ := List.mem_map.mp hg
      exact hv.m z (List.mem_of_mem_take hz)
    rw [List.length_map, List.length_take] at this
    have := hv.n
    omega
  refine dn_seq (do_for (js := [4]) (PX := fun l => l = zs) (it_seqLT hv.is rfl (ev_var rfl rfl)) (fun l i δ => ∃ a b c, δ = [.dat v, .dat (.int n), .dat (.str y), .own p (.dic (tD (totsOf y ((zs.take i).map grOf)))), a, b, c, .un]) (fun l e => ⟨_, _, _, rfl⟩) ?_ ?_)
  · rintro l i z δ' rfl hi ⟨a, b, c, rfl⟩
    have hm := List.mem_of_getElem? hi
    have hg := hv.gr z hm
    have hl := hv.m z hm
    have h0 := lens i
    have h1 : totsOf y ((l.take (i + 1)).map grOf) = (grOf z).foldl (putG y) (totsOf y ((l.take i).map grOf)) := by
      rw [List.take_succ, hi]
      simp [totsOf, List.foldl_append]
    rw [h1]
    generalize totsOf y ((l.take i).map grOf) = t0 at h0 ⊢
    refine tg_name ?_
    refine do_for (js := [5, 6]) (PX := fun k => k = (grOf z).map gD) (it_seqLT hg rfl (ev_var rfl rfl)) (fun k j δ => ∃ b c, δ = [.dat v, .dat (.int n), .dat (.str y), .own p (.dic (tD (((grOf z).take j).foldl (putG y) t0))), .dat z, b, c, .un]) (fun k e => ⟨_, _, rfl⟩) ?_ ?_
    · rintro k j x δ' rfl hj ⟨b, c, rfl⟩
      rw [List.getElem?_map] at hj
      cases hq : (grOf z)[j]? with
      | none => rw [hq] at hj; cases hj
      | some q =>
      obtain ⟨a, nm⟩ := q
      rw [hq] at hj
      obtain rfl : gD (a, nm) = x := Option.some.inj hj
      have h2 : ((grOf z).take (j + 1)).foldl (putG y) t0 = putG y (((grOf z).take j).foldl (putG y) t0) (a, nm) := by
        rw [List.take_succ, hq]
        simp [List.foldl_append]
      have h3 := putG_len y ((grOf z).take j) t0
      rw [List.length_take] at h3
      rw [h2]
      generalize ((grOf z).take j).foldl (putG y) t0 = t at h3 ⊢
      refine tg_tup rfl (tgs_cons (js := [5]) (ks := [6]) (tg_name (tgs_cons (js := [6]) (ks := []) (tg_name (tgs_nil ?_)))))
      have fin : ∀ (u : Int), u = (match getT t nm with | some a0 => joinG y a0 a | none => a) → putD (tD t) (.inr nm) (.int u) = tD (putG y t (a, nm)) := fun u e => by
        rw [tD_put, e]
        rfl
      refine do_dput (i := 3) (p := p) (kvs := tD t) rfl (by unfold tD; rw [List.length_map]; omega) (ev_if (et_B (ev_dinO (i := 3) (p := p) (kvs := tD t) rfl (ev_var rfl ⟨.inr nm, rfl, ⟨_, rfl, fun h4 => ?_, fun h4 => ?_⟩⟩))))
      · rw [tD_val] at h4
        cases h5 : getT t nm with
        | none => rw [h5] at h4; cases h4
        | some a0 =>
        refine ev_call (ea_cons (ev_dgetO (i := 3) (p := p) (kvs := tD t) rfl (ev_var rfl ⟨.inr nm, .int a0, rfl, by rw [tD_val, h5]; rfl, ea_cons (ev_var rfl (ea_cons (ev_var rfl (ea_nil ⟨⟨a0, a, y, rfl⟩, fun d hd => ?_⟩))))⟩)))
        obtain ⟨a0', a', y', e, rfl⟩ := hd
        cases e
        refine ev_var rfl ⟨.inr nm, rfl, ?_⟩
        rw [fin _ (by rw [h5])]
        exact ⟨_, _, rfl⟩
      · rw [tD_val] at h4
        cases h5 : getT t nm with
        | some a0 => rw [h5] at h4; cases h4
        | none =>
        refine ev_var rfl (ev_var rfl ⟨.inr nm, rfl, ?_⟩)
        rw [fin _ (by rw [h5])]
        exact ⟨_, _, rfl⟩
    · rintro k δ' rfl ⟨b, c, rfl⟩
      rw [List.length_map, List.take_length]
      exact ⟨_, _, _, rfl⟩
  rintro l δ' rfl ⟨a, b, c, rfl⟩
  have h0 := lens l.length
  rw [List.take_length] at h0 ⊢
  have ei : itemsOf v = some l := hv.items
  have ef : firstG y (l.map grOf) n = (sortG (totsOf y (l.map grOf))).take n.toNat := rfl
  generalize hT : totsOf y (l.map grOf) = t at h0 ef ⊢
  refine dn_ret (en_slL (EvN.ev (en_sorted (EvN.ev ?_))))
  refine en_items (i := 3) (p := p) (kvs := tD t) rfl (by unfold tD; rw [List.length_map]; omega) (js := [6, 7]) (by decide) (fun n acc => acc = (t.take n).map gD) rfl ?_ ?_
  · rintro j kv acc hj rfl
    unfold tD at hj
    rw [List.getElem?_map] at hj
    cases hq : t[j]? with
    | none => rw [hq] at hj; cases hj
    | some q =>
    rw [hq] at hj
    obtain rfl : ((.inr q.2 : Key), D.int q.1) = kv := Option.some.inj hj
    refine tg_tup rfl (tgs_cons (js := [6]) (ks := [7]) (tg_name (tgs_cons (js := [7]) (ks := []) (tg_name (tgs_nil ?_)))))
    refine et_yes ⟨fun _ => ?_, fun h => nomatch h⟩
    refine ev_tup (ea_cons (ev_var rfl (ea_cons (ev_var rfl (ea_nil ⟨by simp, ?_⟩)))))
    rw [List.take_succ, hq]
    simp [gD]
    rfl
  · rintro ds rfl
    rw [show (tD t).length = t.length from by unfold tD; rw [List.length_map], List.take_length]
    refine ⟨_, .inl rfl, sortOk_g t, ?_⟩
    rw [sortD_g]
    refine eo_none (eo_some (ev_var rfl ⟨n, rfl, _, rfl, v, n, y, rfl, ?_⟩))
    rw [cut_nat hn, ei]
    show _ = (firstG y (l.map grOf) n).map gD
    rw [ef, List.map_take]

end Pf

set_option maxHeartbeats 16000000
namespace Pf
open PySem L2 PfL RZ
local macro_rules | `(tactic| walk_at "ev") => `(tactic| first
  | ((with_reducible refine' ev_var ?h ?_); (case h => rfl))
  | with_reducible refine ev_int ?_
  | with_reducible refine ev_bl ?_
  | with_reducible refine ev_str ?_
  | with_reducible refine ev_non ?_
  | with_reducible refine ev_ty ?_
  | with_reducible refine ev_op ?_
  | with_reducible refine ev_un ?_
  | with_reducible refine ev_chain ?_
  | with_reducible refine ev_if ?_
  | with_reducible refine ev_and ?_
  | with_reducible refine ev_or ?_
  | with_reducible refine ev_not ?_
  | with_reducible refine ev_lst ?_
  | with_reducible refine ev_tup ?_
  | with_reducible refine ea_nil ?_
  | with_reducible refine ea_cons ?_
  | with_reducible refine ev_cb ?_
  | with_reducible refine et_test ?_
  | with_reducible refine et_B ?_
  | with_reducible refine et_and ?_
  | with_reducible refine et_or ?_
  | with_reducible refine et_not ?_
  | with_reducible refine et_yes ?_
  | with_reducible refine eo_none ?_
  | with_reducible refine eo_some ?_
  | with_reducible refine ev_slS ?_
  | with_reducible refine od_int ?_
  | with_reducible refine od_bl ?_
  | with_reducible refine od_eq_int ?_
  | with_reducible refine od_ne_int ?_
  | with_reducible refine od_eq_bl ?_
  | with_reducible refine od_ne_bl ?_
  | with_reducible refine od_eq_str ?_
  | with_reducible refine od_ne_str ?_
  | with_reducible refine od_leS ?_
  | with_reducible refine ud_isN ?_
  | with_reducible refine ud_notN ?_
  | with_reducible refine do_seq ?_
  | with_reducible refine do_set ?_
  | with_reducible refine do_ret ?_
  | with_reducible refine do_retN ?_
  | with_reducible refine do_if ?_
  | with_reducible refine do_next ?_
  | with_reducible refine tg_name ?_
  | with_reducible refine tgs_nil ?_
  | with_reducible refine tgs_cons ?_)
/-! ### the program's group functions: what comes, and which error -/
structure SmP (v : D) (zs : List D) : Prop where
  is : v = .lst zs ∨ v = .tup zs
  n : zs.length ≤ 10
  pl : ∀ z ∈ zs, plD z = true
  tx : ∀ z ∈ zs, ∀ ys, itemsOf z = some ys → ys.length ≤ 1000 ∧ ∀ x ∈ ys, txOk x
theorem SmP.items {v : D} {zs : List D} (h : SmP v zs) : itemsOf v = some zs := by
  rcases h.is with rfl | rfl <;> rfl
def gAt (zs : List D) : Option Nat := zs.findIdx? fun z => !areG z
theorem gAt_none {zs : List D} (h : gAt zs = none) : ∀ z ∈ zs, areG z = true := fun z hz => by
  have := List.findIdx?_eq_none_iff.mp h z hz
  simpa using this
theorem SmP.parts {v : D} {zs : List D} (h : SmP v zs) (hg : gAt zs = none) : PartsV v zs := by
  refine ⟨h.is, fun z hz => areG_grV (gAt_none hg z hz), h.n, fun z hz => ?_⟩
  have hv := grV_items (areG_grV (gAt_none hg z hz))
  have := (h.tx z hz _ hv).1
  rwa [List.length_map] at this
theorem ok__check_groups {P : Program} {w : World} {K : PySem.W.Frag} {mg : Str → Option Value} {base : Heap} (T : Txt K mg) : FnOk P w K mg base CX0 14 T.f__check_groups T.fd__check_groups ["parts"] (spD K (fun ds => ∃ v zs, ds = [v] ∧ SmP v zs ∧ gAt zs = none) (fun _ d => d = .non)) := by
  refine T.F__check_groups.ok sc__check_groups (spD_len fun ds ⟨v, zs, e, _⟩ => by rw [e]; rfl) (fun cdv A outer s H vs Q E hr h => ?_)
  refine ⟨_, (pss_one (ps_for PassesOwn.never rfl (pi_enumA K (by rfl) T.b_enumerate (pa_cons (pv 0) pa_nil)) (pgTup K (n := 2) rfl (pgs_cons (pg_name (i := 1) sc__check_groups.nd rfl (Or.inl rfl)) (pgs_cons (pg_name (i := 2) sc__check_groups.nd rfl (Or.inl rfl)) pgs_nil)))
      (pss_one (ps_if (pt_not (pt_val (pe_call (ok__are_groups T) (hr.mono (by decide)) rfl T.g__are_groups T.k__are_groups T.bd__are_groups .nil pass0 (pa_cons (pv 2) pa_nil)))) (pss_one ps_never) pss_nil)))), ?_⟩
  refine enterD h fun M ds pre _ => ?_
  obtain ⟨v, zs, rfl, hv, hg⟩ := pre
  have it : ∀ {F : Fm} {δ : List SD}, δ[0]? = some (.dat v) → ItD F (iEnumA F.K (tCons (tVar 0) tNil)) δ (fun l => l = numbered zs) := fun {F δ} h0 => by
    rcases hv.is with e | e
    · exact it_enumL (ev_var h0 ⟨_, e, rfl⟩)
    · exact it_enumT (ev_var h0 ⟨_, e, rfl⟩)
  refine do_for (js := [1, 2]) (PX := fun l => l = numbered zs) (it rfl) (fun l i δ => ∃ a b, δ = [.dat v, a, b]) (fun l e => ⟨_, _, rfl⟩) ?_ ?_
  · rintro l i x δ' rfl hi ⟨a, b, rfl⟩
    have hlt : i < zs.length := by
      have := (List.getElem?_eq_some_iff.mp hi).1
      rwa [numbered_len] at this
    obtain ⟨z, hz⟩ : ∃ z, zs[i]? = some z := ⟨zs[i], by simp [hlt]⟩
    rw [numbered_get hz] at hi
    obtain rfl := Option.some.inj hi
    have hm := List.mem_of_getElem? hz
    refine tg_tup rfl (tgs_cons (js := [1]) (ks := [2]) (tg_name (tgs_cons (js := [2]) (ks := []) (tg_name (tgs_nil ?_)))))
    refine do_if (et_not (et_test (ev_call (ea_cons (ev_var rfl (ea_nil ⟨⟨z, rfl, hv.pl z hm, fun ys hy x hx => (hv.tx z hm ys hy).2 x hx⟩, fun d hd => ?_⟩))))))
    obtain ⟨z', e, rfl⟩ := hd
    cases e
    refine ⟨_, rfl, fun h1 => ?_, fun h1 => do_next ⟨_, _, rfl⟩⟩
    rw [gAt_none hg z hm] at h1
    cases h1
  · rintro l δ' rfl ⟨a, b, rfl⟩
    rfl
def cutG (a : Int) (g : Gr) : Gr := (sortG g).take a.toNat
def preTn : List D → Prop := fun ds => ∃ v zs n y, ds = [v, .int n, .str y] ∧ SmP v zs ∧ gAt zs = none ∧ (1 ≤ n ∧ n ≤ 9) ∧ inTx ways (.str y) = true
def preOn : List D → Prop := fun ds => ∃ v zs a n y, ds = [v, .int a, .int n, .str y] ∧ SmP v zs ∧ gAt zs = none ∧ (1 ≤ a ∧ a ≤ 9) ∧ (1 ≤ n ∧ n ≤ 9) ∧ inTx ways (.str y) = true
def poOn : List D → List D → Prop := fun ds es => ∃ v a n y, ds = [v, .int a, .int n, .str y] ∧ es = (firstG y ((((itemsOf v).getD []).map grOf).map (cutG a)) n).map gD
theorem ok_true_first {P : Program} {w : World} {K : PySem.W.Frag} {mg : Str → Option Value} {base : Heap} (T : Txt K mg) : FnOk P w K mg base CX0 18 T.f_true_first T.fd_true_first ["parts", "size", "way"] (spN K preTn poFn) := by
  refine T.F_true_first.ok sc_true_first (spN_len fun ds ⟨v, zs, n, y, e, _⟩ => by rw [e]; rfl) (fun cdv A outer s H vs Q E hr h => ?_)
  refine ⟨_, (pss_cons (ps_expr (pe_call (ok__check_groups T) (hr.mono (by decide)) rfl T.g__check_groups T.k__check_groups T.bd__check_groups .nil pass0 (pa_cons (pv 0) pa_nil)))
    (pss_cons (ps_expr (pe_call (ok_check_size T) (hr.mono (by decide)) rfl T.g_check_size T.k_check_size T.bd_check_size .nil pass0 (pa_cons (pv 1) pa_nil)))
    (pss_cons (ps_expr (pe_call (ok__check_way T) (hr.mono (by decide)) rfl T.g__check_way T.k__check_way T.bd__check_way .nil pass0 (pa_cons (pv 2) pa_nil)))
    (pss_one (ps_ret (pe_call (ok__first_totals T) (hr.mono (by decide)) rfl T.g__first_totals T.k__first_totals T.bd__first_totals .nil pass0 (pa_cons (pv 0) (pa_cons (pv 1) (pa_cons (pv 2) pa_nil))))))))), ?_⟩
  refine enterNN h fun M ds pre _ => ?_
  obtain ⟨v, zs, n, y, rfl, hv, hg, hn, hy⟩ := pre
  refine dn_seq (do_drop (ev_call (ea_cons (ev_var rfl (ea_nil ⟨⟨v, zs, rfl, hv, hg⟩, fun d _ => ?_⟩)))))
  refine dn_seq (do_drop (ev_call (ea_cons (ev_var rfl (ea_nil ⟨⟨n, rfl, hn⟩, fun d _ => ?_⟩)))))
  refine dn_seq (do_drop (ev_call (ea_cons (ev_var rfl (ea_nil ⟨⟨y, rfl, hy⟩, fun d _ => ?_⟩)))))
  refine dn_ret (en_call (ea_cons (ev_var rfl (ea_cons (ev_var rfl (ea_cons (ev_var rfl (ea_nil ⟨⟨v, zs, n, y, rfl, hv.parts hg, by omega⟩, fun d hd => hd⟩))))))))
theorem ok_told_first {P : Program} {w : World} {K : PySem.W.Frag} {mg : Str → Option Value} {base : Heap} (T : Txt K mg) : FnOk P w K mg base CX0 18 T.f_told_first T.fd_told_first ["parts", "ask", "size", "way"] (spN K preOn poOn) := by
  refine T.F_told_first.ok sc_told_first (spN_len fun ds ⟨v, zs, a, n, y, e, _⟩ => by rw [e]; rfl) (fun cdv A outer s H vs Q E hr h => ?_)
  refine ⟨_, (pss_cons (ps_expr (pe_call (ok__check_groups T) (hr.mono (by decide)) rfl T.g__check_groups T.k__check_groups T.bd__check_groups .nil pass0 (pa_cons (pv 0) pa_nil)))
    (pss_cons (ps_expr (pe_call (ok__check_ask T) (hr.mono (by decide)) rfl T.g__check_ask T.k__check_ask T.bd__check_ask .nil pass0 (pa_cons (pv 1) pa_nil)))
    (pss_cons (ps_expr (pe_call (ok_check_size T) (hr.mono (by decide)) rfl T.g_check_size T.k_check_size T.bd_check_size .nil pass0 (pa_cons (pv 2) pa_nil)))
    (pss_cons (ps_expr (pe_call (ok__check_way T) (hr.mono (by decide)) rfl T.g__check_way T.k__check_way T.bd__check_way .nil pass0 (pa_cons (pv 3) pa_nil)))
    (pss_one (ps_ret (pe_call (ok__first_totals T) (hr.mono (by decide)) rfl T.g__first_totals T.k__first_totals T.bd__first_totals .nil pass0 (pa_cons (pe_lc (own := [("part", 4)]) rfl sc_told_first.nd (piS K (pv 0)) (blkOk_by (N := N_told_first) (sc := defScope s_told_first) (by decide +kernel)) (fun _ _ _ _ _ => (pg_name (i := 4) sc_told_first.nd rfl (Or.inl rfl))) (fun _ _ _ _ _ => pts_nil) (fun _ _ _ _ _ => (pe_slice (slL K) (pe_callB (cr_sortA K hr.units) (by rfl) T.b_sorted (by decide +kernel) (pa_cons (pv 4) pa_nil)) po_none (po_some (pv 1))))) (pa_cons (pv 2) (pa_cons (pv 3) pa_nil)))))))))), ?_⟩
  refine enterNN h fun M ds pre _ => ?_
  obtain ⟨v, zs, k, n, y, rfl, hv, hg, ha, hn, hy⟩ := pre
  refine dn_seq (do_drop (ev_call (ea_cons (ev_var rfl (ea_nil ⟨⟨v, zs, rfl, hv, hg⟩, fun d _ => ?_⟩)))))
  refine dn_seq (do_drop (ev_call (ea_cons (ev_var rfl (ea_nil ⟨⟨k, rfl, ha⟩, fun d _ => ?_⟩)))))
  refine dn_seq (do_drop (ev_call (ea_cons (ev_var rfl (ea_nil ⟨⟨n, rfl, hn⟩, fun d _ => ?_⟩)))))
  refine dn_seq (do_drop (ev_call (ea_cons (ev_var rfl (ea_nil ⟨⟨y, rfl, hy⟩, fun d _ => ?_⟩)))))
  have pv := hv.parts hg
  refine dn_ret (en_call (ea_cons (EvN.ev ?_)))
  refine en_lc (js := [4]) (PX := fun l => l = zs) (it_seqLT pv.is rfl (ev_var rfl rfl)) (fun l e => by rw [e]; have := pv.n; omega) (by decide) (fun l j acc => acc = ((zs.take j).map grOf).map fun g => D.lst ((cutG k g).map gD)) (fun l e => rfl) ?_ ?_
  · rintro l j z acc rfl hj rfl
    have hm := List.mem_of_getElem? hj
    have hz := pv.gr z hm
    refine tg_name (et_yes ⟨fun _ => ?_, fun h => nomatch h⟩)
    refine EvN.ev (en_slL (EvN.ev (en_sorted (ev_var rfl ⟨(grOf z).map gD, hz, sortOk_g _, ?_⟩))))
    rw [sortD_g]
    refine eo_none (eo_some (ev_var rfl ⟨k, rfl, _, rfl, ?_⟩))
    rw [cut_nat (by omega), List.take_succ, hj]
    simp [cutG]
  · rintro l ds rfl rfl
    rw [List.take_length]
    refine ea_cons (ev_var rfl (ea_cons (ev_var rfl (ea_nil ⟨⟨_, _, n, y, rfl, ⟨.inl rfl, fun z hz => ?_, ?_, fun z hz => ?_⟩, by omega⟩, fun d hd => ?_⟩))))
    · obtain ⟨g, _, rfl⟩ := List.mem_map.mp hz
      exact grV_lst _
    · rw [List.length_map, List.length_map]
      exact pv.n
    · obtain ⟨g, hg', rfl⟩ := List.mem_map.mp hz
      obtain ⟨z0, hz0, rfl⟩ := List.mem_map.mp hg'
      have := pv.m z0 hz0
      rw [grOf_lst]
      unfold cutG
      rw [List.length_take, sortG_len]
      omega
    obtain ⟨v', n', y', e, rfl⟩ := hd
    simp only [List.cons.injEq, D.int.injEq, D.str.injEq, and_true] at e
    obtain ⟨rfl, rfl, rfl⟩ := e
    refine ⟨v, k, n, y, rfl, ?_⟩
    rw [hv.items]
    show (firstG y (List.map grOf (List.map (fun g => D.lst ((cutG k g).map gD)) (List.map grOf l))) n).map gD = _
    have e2 : List.map grOf (List.map (fun g => D.lst ((cutG k g).map gD)) (List.map grOf l)) = (l.map grOf).map (cutG k) := by
      rw [List.map_map]
      exact List.map_congr_left fun g _ => grOf_lst _
    rw [e2]
    rfl

end Pf

set_option maxHeartbeats 16000000
namespace Pf
open PySem L2 PfL RZ
local macro_rules | `(tactic| walk_at "ev") => `(tactic| first
  | ((with_reducible refine' ev_var ?h ?_); (case h => rfl))
  | with_reducible refine ev_int ?_
  | with_reducible refine ev_bl ?_
  | with_reducible refine ev_str ?_
  | with_reducible refine ev_non ?_
  | with_reducible refine ev_ty ?_
  | with_reducible refine ev_op ?_
  | with_reducible refine ev_un ?_
  | with_reducible refine ev_chain ?_
  | with_reducible refine ev_if ?_
  | with_reducible refine ev_and ?_
  | with_reducible refine ev_or ?_
  | with_reducible refine ev_not ?_
  | with_reducible refine ev_lst ?_
  | with_reducible refine ev_tup ?_
  | with_reducible refine ea_nil ?_
  | with_reducible refine ea_cons ?_
  | with_reducible refine ev_cb ?_
  | with_reducible refine et_test ?_
  | with_reducible refine et_B ?_
  | with_reducible refine et_and ?_
  | with_reducible refine et_or ?_
  | with_reducible refine et_not ?_
  | with_reducible refine et_yes ?_
  | with_reducible refine eo_none ?_
  | with_reducible refine eo_some ?_
  | with_reducible refine ev_slS ?_
  | with_reducible refine od_int ?_
  | with_reducible refine od_bl ?_
  | with_reducible refine od_eq_int ?_
  | with_reducible refine od_ne_int ?_
  | with_reducible refine od_eq_bl ?_
  | with_reducible refine od_ne_bl ?_
  | with_reducible refine od_eq_str ?_
  | with_reducible refine od_ne_str ?_
  | with_reducible refine od_leS ?_
  | with_reducible refine ud_isN ?_
  | with_reducible refine ud_notN ?_
  | with_reducible refine do_seq ?_
  | with_reducible refine do_set ?_
  | with_reducible refine do_ret ?_
  | with_reducible refine do_retN ?_
  | with_reducible refine do_if ?_
  | with_reducible refine do_next ?_
  | with_reducible refine tg_name ?_
  | with_reducible refine tgs_nil ?_
  | with_reducible refine tgs_cons ?_)
/-! ### the law's names and parts -/
section
variable {F : Fm} {δ : List SD} {P : D → Prop} {R : PD} {ta tb : TE}
theorem ev_lenO {i : Nat} {p : Addr} {ds : List D} (hi : δ[i]? = some (.own p (.lst ds))) (pz : P (.int (ds.length : Int))) : Ev F (tCB (rLenK F.K) (tCons (tVar i) tNil)) δ P := fun M σ H Q c q => by
  obtain ⟨y, h1, hy, m, ho, h3, r0⟩ := c.sl i _ hi
  subst hy
  cases r0 with
  | @lst ws _ r0 =>
    exact ⟨_, h1, _, ds.length, rfl, .inl ⟨_, SqL.of h3, r0.length.symm⟩, q _ _ H pz c (StepB.refl _ _) (.int _)⟩
/-- a, b = x, a new list -/
theorem do_par2N {i l : Nat} (hil : i ≠ l) (h : Ev F ta δ fun x => EvN F tb δ fun ds => ∀ p, R.nx ((δ.set i (.dat x)).set l (.own p (.lst ds)))) : Do F (tPar i l (tCons ta (tCons tb tNil))) δ R := fun M σ H E c a b k d =>
  h M σ H _ c fun v x H1 p1 c1 e1 r1 => p1 M σ H1 _ c1 fun p us ds H3 pd c3 hp h0 hb no e3 h3 r3 => by
    have k : StepB F.mv H H3 := e1.trans e3
    have hs : ∀ {Ha : Hp}, Ctx F M σ Ha δ → StepB F.mv Ha H3 → (Ha p = none) → Same (hd M Ha) (hd (hid M p) H3) := fun {Ha} ca ea hn x o hx => by
      obtain ⟨m, h1⟩ := hd_of hx
      have n : x ≠ p := ne_of_none h1 hn
      refine hd_at (by rw [hid_ne n]; exact m) (ea x o (fun z => ?_) h1)
      have := ca.m0 x (z.elim (fun z => (ca.bg.1 x z).1) fun ⟨p, z, e⟩ => e ▸ (ca.bg.2 p z).1)
      rw [m] at this
      cases this
    have n0 : H p = none := by
      cases z : H p with
      | none => rfl
      | some o =>
        have := e1 p o hb z
        rw [hp] at this
        cases this
    have ra := r1.mono (hs c1 e3 hp)
    have c4 := (c3.set i ra).setOwn l (p := p) hid_same h3 (.lst r3) h0 hb fun q es hq hs' => by
      rcases set_key hs' with ⟨_, z, _⟩ | ⟨_, hs'⟩
      · cases z
      exact no q es hs'
    exact ⟨v, .ref p, rfl, a (hid M p) _ H3 _ (pd p) c4 (hs c k n0)⟩
end
def preMix : List D → Prop := fun ds => ∃ xs, ds = [.lst xs] ∧ xs.length ≤ 1000
def postMix : List D → D → Prop := fun ds d => ∃ xs ys, ds = [.lst xs] ∧ d = .lst ys ∧ ys.Perm xs
theorem ok_mixed {P : Program} {w : World} {K : PySem.W.Frag} {mg : Str → Option Value} {base : Heap} (T : Txt K mg) : FnOk P w K mg base CX0 4 T.f_mixed T.fd_mixed ["_law_bag", "_law_things"] (spB K preMix postMix) := by
  refine T.F_mixed.ok sc_mixed (spB_len fun ds ⟨xs, e, _⟩ => by rw [e]; rfl) (fun cdv A outer s H vs Q E hr h => ?_)
  refine ⟨_, (pss_cons (ps_set (i := 2) sc_mixed.nd rfl (Or.inl rfl) (pe_lst pa_nil))
    (pss_cons (ps_for PassesOwn.never rfl (piL K (pv 1)) (pg_name (i := 3) sc_mixed.nd rfl (Or.inl rfl))
      (pss_one (ps_expr (pe_bm PySem.F.plainAttrs_list PySem.F.slot_list_insert PySem.F.type_list_insert mt_insert (pv 2) (pa_cons (pe_call (ok_draw T) (hr.mono (by decide)) rfl T.g_draw T.k_draw T.bd_draw .nil pass0 (pa_cons (pv 0) (pa_cons (pe_op op_add (pe_callB (callLen K) (by rfl) T.b_len (by decide +kernel) (pa_cons (pv 2) pa_nil)) pe_int) pa_nil))) (pa_cons (pv 3) pa_nil))))))
    (pss_one (ps_ret (pv 2))))), ?_⟩
  refine enterB h fun M b c ds pre _ => ?_
  obtain ⟨xs, rfl, hz⟩ := pre
  refine do_seq (do_own (en_lst (ea_nil ⟨by decide, fun p => ?_⟩)))
  refine do_seq ?_
  refine do_for (js := [3]) (PX := fun l => l = xs) (it_list (ev_var rfl ⟨_, rfl, rfl⟩)) (fun l i δ => ∃ ys z, δ = [.bag, .dat (.lst xs), .own p (.lst ys), z] ∧ ys.Perm (xs.take i)) (fun l e => ⟨[], .un, rfl, by simp⟩) ?_ ?_
  · rintro l i d δ' rfl hi ⟨ys, z, rfl, pm⟩
    have hlt := (List.getElem?_eq_some_iff.mp hi).1
    have hy : ys.length = i := by rw [pm.length_eq, List.length_take]; omega
    refine tg_name (do_insert (i := 2) (p := p) (ds := ys) rfl (by omega) (ev_draw rfl rfl (ea_cons (ev_op (ev_lenO (i := 2) (p := p) (ds := ys) rfl (ev_int (od_int (ea_nil ⟨(ys.length : Int) + 1, rfl, by omega, by omega, fun r h0 h1 => ⟨r, rfl, h0, by omega, ev_var rfl ?_⟩⟩))))))))
    refine ⟨ys.take r.toNat ++ [d] ++ ys.drop r.toNat, .dat d, rfl, ?_⟩
    rw [List.take_succ, hi]
    have q1 : (ys.take r.toNat ++ [d] ++ ys.drop r.toNat).Perm (d :: ys) := by
      rw [List.append_assoc, List.singleton_append]
      exact List.perm_middle.trans (by rw [List.take_append_drop])
    refine q1.trans ((pm.cons d).trans ?_)
    simp only [Option.toList]
    exact (List.perm_append_singleton d _).symm
  · rintro l δ' rfl ⟨ys, z, rfl, pm⟩
    refine do_freeze (i := 2) rfl (do_ret (ev_var rfl ⟨_, ys, rfl, rfl, ?_⟩))
    rwa [List.take_length] at pm
theorem perm_strs {xs : List Str} {ys : List D} (h : ys.Perm (xs.map .str)) : ∃ zs : List Str, ys = zs.map .str ∧ zs.Perm xs := by
  have e : ∀ zs : List D, (∀ z ∈ zs, ∃ i, z = .str i) → zs = (zs.map fun d => match d with | .str i => i | _ => Str.empty).map D.str := fun zs hz => by
    rw [List.map_map]
    conv => lhs; rw [← List.map_id zs]
    refine List.map_congr_left fun z hm => ?_
    obtain ⟨i, rfl⟩ := hz z hm
    rfl
  refine ⟨_, e ys fun z hz => ?_, ?_⟩
  · obtain ⟨i, _, rfl⟩ := List.mem_map.mp (h.mem_iff.mp hz)
    exact ⟨i, rfl⟩
  · have := h.map fun d => match d with | D.str i => i | _ => Str.empty
    rw [List.map_map] at this
    simpa [Function.comp_def] using this
/-! names: a stem of at most seven letters with a letter between, unlike for each -/
structure NamesOk (zs : List Str) : Prop where
  nd : zs.Nodup
  nm : ∀ z ∈ zs, isName (.str z) = true
def ltr (h : Int) (k : Nat) : Int := (h + 9 * (k : Int)) % 26
def nmK (st : Str) (a : Int) (h : Int) (k : Nat) : Str := cutS st none (some a) ++ (⟨#[97 + (ltr h k).toNat]⟩ : Str) ++ cutS st (some a) none
theorem abc_at : ∀ n : Fin 26, abc.cps.toList[(n : Nat)]? = some (97 + (n : Nat)) := by decide +kernel
theorem abc_ix {i : Int} (h0 : 0 ≤ i) (h1 : i < 26) : atI abc.cps.toList i = some (97 + i.toNat) := by
  obtain ⟨n, rfl⟩ : ∃ n : Nat, i = (n : Int) := ⟨i.toNat, by omega⟩
  exact atI_nat (abc_at ⟨n, by omega⟩)
theorem cps_add (a b : Str) : (a ++ b).cps.toList = a.cps.toList ++ b.cps.toList := by
  show (a.cps ++ b.cps).toList = _
  rw [Array.toList_append]
theorem cutS_lo (st : Str) {n : Nat} (h : n ≤ st.length) : (cutS st none (some (n : Int))).cps.toList = st.cps.toList.take n := by
  unfold cutS
  rw [HT.sIx_none, HT.sIx_nat, Nat.min_eq_left h]
  simp
theorem cutS_hi (st : Str) {n : Nat} (h : n ≤ st.length) : (cutS st (some (n : Int)) none).cps.toList = st.cps.toList.drop n := by
  unfold cutS
  rw [HT.sIx_none, HT.sIx_nat, Nat.min_eq_left h]
  have : (List.drop n st.cps.toList).length = st.length - n := by rw [List.length_drop, str_len]
  rw [← this, List.take_length]
theorem nmK_cps (st : Str) {n : Nat} (h : n ≤ st.length) (hd : Int) (k : Nat) : (nmK st (n : Int) hd k).cps.toList = st.cps.toList.take n ++ ([97 + (ltr hd k).toNat] ++ st.cps.toList.drop n) := by
  unfold nmK
  rw [cps_add, cps_add, cutS_lo st h, cutS_hi st h, List.append_assoc]
theorem nmK_ok {st : Str} {a : Int} (wl : st.length ≤ 7) (wc : ∀ c ∈ st.cps.toList, lower c = true) (a0 : 0 ≤ a) (a1 : a ≤ st.length) (hd : Int) {m : Nat} (hm : m ≤ 7) : NamesOk ((List.range m).map (nmK st a hd)) := by
  obtain ⟨n, rfl⟩ : ∃ n : Nat, a = (n : Int) := ⟨a.toNat, by omega⟩
  have hn : n ≤ st.length := by omega
  refine ⟨?_, fun z hz => ?_⟩
  · refine List.Pairwise.map _ (R := fun a b : Nat => a < b ∧ b < m) (fun a b hab e => ?_) ?_
    · have e1 : (nmK st (n : Int) hd a).cps.toList = (nmK st (n : Int) hd b).cps.toList := by rw [e]
      rw [nmK_cps st hn, nmK_cps st hn] at e1
      have e2 := List.append_cancel_left e1
      have e3 : 97 + (ltr hd a).toNat = 97 + (ltr hd b).toNat := by
        simpa using e2
      unfold ltr at e3
      omega
    · have h1 : (List.range m).Pairwise (· < ·) := List.pairwise_lt_range
      exact h1.imp_of_mem fun {a b} _ hb h => ⟨h, List.mem_range.mp hb⟩
  · obtain ⟨k, _, rfl⟩ := List.mem_map.mp hz
    have ll : (nmK st (n : Int) hd k).length = st.length + 1 := by
      rw [← str_len, nmK_cps st hn]
      simp only [List.length_append, List.length_take, List.length_drop, List.length_cons, List.length_nil, str_len]
      omega
    rw [isName_word fun c hc => ?_]
    · rw [ll]
      simp only [Bool.and_eq_true, decide_eq_true_eq]
      omega
    rw [nmK_cps st hn] at hc
    rcases List.mem_append.mp hc with h | h
    · exact wc c (List.mem_of_mem_take h)
    rcases List.mem_append.mp h with h | h
    · rw [List.mem_singleton.mp h]
      unfold lower ltr
      simp only [Bool.and_eq_true, decide_eq_true_eq]
      omega
    · exact wc c (List.mem_of_mem_drop h)
def preNms : List D → Prop := fun ds => ∃ m : Int, ds = [.int m] ∧ 0 ≤ m ∧ m ≤ 7
def poNms : List D → D → Prop := fun ds d => ∃ (m : Int) (zs : List Str), ds = [.int m] ∧ d = .lst (zs.map .str) ∧ (zs.length : Int) = m ∧ NamesOk zs
theorem ok_names {P : Program} {w : World} {K : PySem.W.Frag} {mg : Str → Option Value} {base : Heap} (T : Txt K mg) : FnOk P w K mg base CX0 8 T.f_names T.fd_names ["_law_bag", "_law_many"] (spB K preNms poNms) := by
  refine T.F_names.ok sc_names (spB_len fun ds ⟨xs, e, _⟩ => by rw [e]; rfl) (fun cdv A outer s H vs Q E hr h => ?_)
  refine ⟨_, (pss_cons (ps_set (i := 2) sc_names.nd rfl (Or.inr rfl) pe_str)
    (pss_cons (ps_set (i := 3) sc_names.nd rfl (Or.inr rfl) (pe_join pe_str (pe_lc (own := [("_law_k", 6)]) rfl sc_names.nd (pi_range1 (by rfl) T.b_range (pa_cons (pe_call (ok_draw T) (hr.mono (by decide)) rfl T.g_draw T.k_draw T.bd_draw .nil pass0 (pa_cons (pv 0) (pa_cons pe_int pa_nil))) pa_nil)) (blkOk_by (N := N_names) (sc := defScope s_names) (by decide +kernel)) (fun _ _ _ _ _ => (pg_name (i := 6) sc_names.nd rfl (Or.inl rfl))) (fun _ _ _ _ _ => pts_nil) (fun _ _ _ _ _ => (pe_call (ok_of T) (hr.mono (by decide)) rfl T.g_of T.k_of T.bd_of .nil pass0 (pa_cons (pv 0) (pa_cons (pv 2) pa_nil)))))))
    (pss_cons (ps_asg (pe_tup (pa_cons (pe_call (ok_draw T) (hr.mono (by decide)) rfl T.g_draw T.k_draw T.bd_draw .nil pass0 (pa_cons (pv 0) (pa_cons (pe_op op_add (pe_callB (callLen K) (by rfl) T.b_len (by decide +kernel) (pa_cons (pv 3) pa_nil)) pe_int) pa_nil))) (pa_cons (pe_call (ok_draw T) (hr.mono (by decide)) rfl T.g_draw T.k_draw T.bd_draw .nil pass0 (pa_cons (pv 0) (pa_cons pe_int pa_nil))) pa_nil))) (pgTup K (n := 2) rfl (pgs_cons (pg_name (i := 4) sc_names.nd rfl (Or.inr rfl)) (pgs_cons (pg_name (i := 5) sc_names.nd rfl (Or.inr rfl)) pgs_nil))))
    (pss_one (ps_ret (pe_lc (own := [("_law_k", 6)]) rfl sc_names.nd (pi_range1 (by rfl) T.b_range (pa_cons (pv 1) pa_nil)) (blkOk_by (N := N_names) (sc := defScope s_names) (by decide +kernel)) (fun _ _ _ _ _ => (pg_name (i := 6) sc_names.nd rfl (Or.inl rfl))) (fun _ _ _ _ _ => pts_nil) (fun _ _ _ _ _ => (pe_op op_add_str (pe_op op_add_str (pe_slice sl_str (pv 3) po_none (po_some (pv 4))) (pe_ix ix_str (pv 2) (pe_op op_mod (pe_callTy call_int1 (by rfl) T.b_int (by decide +kernel) (pa_cons (pe_op op_add (pv 5) (pe_op op_mul pe_int (pv 6))) pa_nil)) pe_int) (fun _ _ => rfl))) (pe_slice sl_str (pv 3) (po_some (pv 4)) po_none))))))))), ?_⟩
  refine enterB h fun M b c ds pre _ => ?_
  obtain ⟨m, rfl, m0, m1⟩ := pre
  refine do_seq (do_set (ev_str ?_))
  refine do_seq (do_set (ev_m1 (ev_str ⟨_, rfl, EvN.ev ?_⟩)))
  refine en_lc (js := [6]) (PX := fun l => ∃ r : Int, 0 ≤ r ∧ r < 8 ∧ l = upto 0 r.toNat) (it_range1 (ea_cons (ev_draw rfl rfl (ea_cons (ev_int (ea_nil ⟨8, rfl, by decide, by decide, fun r h0 h1 => ea_nil ⟨r, rfl, by omega, by omega, r, h0, h1, rfl⟩⟩)))))) (fun l ⟨r, h0, h1, e⟩ => ?_) (by decide)
    (fun l i acc => ∃ cs : List Nat, acc = strD (cs.map fun c => ⟨#[c]⟩) ∧ cs.length = i ∧ ∀ c ∈ cs, lower c = true) (fun l _ => ⟨[], rfl, rfl, fun c h => nomatch h⟩) ?_ ?_
  · rw [e, upto_len]
    omega
  · rintro l k d acc _ hk ⟨cs, rfl, rfl, hcs⟩
    refine tg_name (et_yes ⟨fun _ => ?_, fun h => nomatch h⟩)
    refine ev_ofS rfl rfl (ea_cons (ev_var rfl (ea_nil ⟨abc, rfl, by decide +kernel, by decide +kernel, fun c hc => ?_⟩)))
    refine ⟨cs ++ [c], ?_, by simp, fun c' h' => ?_⟩
    · unfold strD
      simp
    · rcases List.mem_append.mp h' with h' | h'
      · exact hcs c' h'
      · rw [List.mem_singleton.mp h', ← mem_abc]
        exact decide_eq_true hc
  rintro l ds ⟨r, h0, h1, rfl⟩ ⟨cs, rfl, hl, hcs⟩
  rw [upto_len] at hl
  refine cd_join ?_ ?_
  · rw [sum_signs, List.length_map]
    show cs.length + cs.length * 0 ≤ _
    omega
  rw [join_signs]
  generalize hw : (⟨cs.toArray⟩ : Str) = st
  have wl : st.length ≤ 7 := by rw [← hw]; show cs.toArray.size ≤ 7; simp; omega
  have wc : ∀ c ∈ st.cps.toList, lower c = true := by rw [← hw]; simpa using hcs
  clear hw hl hcs
  refine do_seq (do_asg (js := [4, 5]) (ev_tup (ea_cons (ev_draw rfl rfl ?_))))
  repeat (first | walk_at "ev" | refine cd_lenK (k := st.length) rfl (by omega) ?_)
  refine ⟨_, rfl, by omega, by omega, fun a a0 a1 => ?_⟩
  refine ea_cons (ev_draw rfl rfl (ea_cons (ev_int (ea_nil ⟨26, rfl, by decide, by decide, fun hd hd0 hd1 => ea_nil ⟨by simp, ?_⟩⟩))))
  refine tg_tup rfl (tgs_cons (js := [4]) (ks := [5]) (tg_name (tgs_cons (js := [5]) (ks := []) (tg_name (tgs_nil ?_)))))
  refine do_ret (EvN.ev ?_)
  refine en_lc (js := [6]) (PX := fun l => l = upto 0 m.toNat) (it_range1 (ea_cons (ev_var rfl (ea_nil ⟨m, rfl, by omega, by omega, rfl⟩)))) (fun l e => by rw [e, upto_len]; omega) (by decide) (fun l i acc => acc = ((List.range i).map (nmK st a hd)).map D.str) (fun l e => rfl) ?_ ?_
  · rintro l k d acc rfl hk rfl
    obtain ⟨hlt, rfl⟩ := upto_get hk
    refine tg_name (et_yes ⟨fun _ => ?_, fun h => nomatch h⟩)
    have c1 := cutS_length st none (some a)
    have c2 := cutS_length st (some a) none
    refine ev_op (ev_op (ev_slS (ev_var rfl (eo_none (eo_some (ev_var rfl ⟨a, rfl, st, rfl, by omega, ?_⟩))))))
    refine ev_op (ev_var (d := .str abc) rfl (ev_op (ev_cb (ea_cons (ev_op (ev_var (d := .int hd) rfl (ev_op (ev_int (ev_var rfl ?_))))))))) 
    refine od_intC (Or.inl ⟨by omega, by omega⟩) (od_int (ea_nil (cd_intI (fun _ _ _ h => .inl h) (ev_int (od_intC (by decide) ?_)))))
    have e1 : (hd + 9 * (0 + (k : Int))) % 26 = ltr hd k := by unfold ltr; congr 2; omega
    rw [e1]
    have l0 : 0 ≤ ltr hd k := by unfold ltr; omega
    have l1 : ltr hd k < 26 := by unfold ltr; omega
    refine od_ixS (by decide +kernel) (abc_ix l0 l1) ?_
    refine od_addS (by show (cutS st none (some a)).length + 1 ≤ 100000; omega) ?_
    refine ev_slS (ev_var rfl (eo_some (ev_var rfl ⟨a, rfl, eo_none ⟨st, rfl, by omega, ?_⟩⟩)))
    refine od_addS (by rw [add_len]; show (cutS st none (some a)).length + 1 + _ ≤ 100000; omega) ?_
    rw [List.range_succ, List.map_append, List.map_append]
    rfl
  · rintro l ds rfl rfl
    rw [upto_len]
    refine ⟨m, _, rfl, rfl, by simp; omega, nmK_ok wl wc a0 (by omega) hd (by omega)⟩
/-! parts -/
structure GpOk (gs : List Gr) : Prop where
  n0 : 1 ≤ gs.length
  n1 : gs.length ≤ 4
  ln : ∀ g ∈ gs, g.length ≤ 7
  nd : ∀ g ∈ gs, (g.map Prod.snd).Nodup
  nm : ∀ g ∈ gs, ∀ p ∈ g, isName (.str p.2) = true
def lgD (g : Gr) : D := .lst (g.map gD)
def preGps : List D → Prop := fun ds => ds = []
def poGps : List D → D → Prop := fun ds d => ∃ gs : List Gr, d = .lst (gs.map lgD) ∧ GpOk gs
theorem ok_group_parts {P : Program} {w : World} {K : PySem.W.Frag} {mg : Str → Option Value} {base : Heap} (T : Txt K mg) : FnOk P w K mg base CX0 12 T.f_group_parts T.fd_group_parts ["_law_bag"] (spB K preGps poGps) := by
  refine T.F_group_parts.ok sc_group_parts (spB_len fun ds e => by rw [e]; rfl) (fun cdv A outer s H vs Q E hr h => ?_)
  refine ⟨_, (pss_cons (ps_par (i := 1) (j := 2) rfl sc_group_parts.nd rfl rfl (by decide) rfl rfl (pa_cons (pe_call (ok_names T) (hr.mono (by decide)) rfl T.g_names T.k_names T.bd_names .nil pass0 (pa_cons (pv 0) (pa_cons pe_int pa_nil))) (pa_cons (pe_lst pa_nil) pa_nil)) rfl)
    (pss_cons (ps_set (i := 3) sc_group_parts.nd rfl (Or.inl rfl) (pe_call (ok_of T) (hr.mono (by decide)) rfl T.g_of T.k_of T.bd_of .nil pass0 (pa_cons (pv 0) (pa_cons (pe_lst (pa_cons pe_int (pa_cons (pe_op op_sub pe_int pe_int) (pa_cons (pe_op op_pow pe_int pe_int) (pa_cons (pe_op op_pow pe_int pe_int) (pa_cons (pe_op op_sub pe_int (pe_op op_pow pe_int pe_int)) pa_nil)))))) pa_nil))))
    (pss_cons (ps_for PassesOwn.never rfl (pi_range1 (by rfl) T.b_range (pa_cons (pe_op op_add pe_int (pe_call (ok_draw T) (hr.mono (by decide)) rfl T.g_draw T.k_draw T.bd_draw .nil pass0 (pa_cons (pv 0) (pa_cons pe_int pa_nil)))) pa_nil)) (pg_name (i := 4) sc_group_parts.nd rfl (Or.inl rfl))
      (pss_cons (ps_set (i := 5) sc_group_parts.nd rfl (Or.inl rfl) (pe_lst pa_nil))
      (pss_cons (ps_for PassesOwn.never rfl (piL K (pe_call (ok_mixed T) (hr.mono (by decide)) rfl T.g_mixed T.k_mixed T.bd_mixed .nil pass0 (pa_cons (pv 0) (pa_cons (pv 1) pa_nil)))) (pg_name (i := 6) sc_group_parts.nd rfl (Or.inl rfl))
        (pss_one (ps_if (pt_cmpR op_eq (pe_call (ok_draw T) (hr.mono (by decide)) rfl T.g_draw T.k_draw T.bd_draw .nil pass0 (pa_cons (pv 0) (pa_cons pe_int pa_nil))) pe_int (nomark _)) (pss_one (ps_expr (pe_bm PySem.F.plainAttrs_list PySem.F.slot_list_append PySem.F.type_list_append (mt_append) (pv 5) (pa_cons (pe_tup (pa_cons (pe_op op_add (pv 3) (pe_call (ok_draw T) (hr.mono (by decide)) rfl T.g_draw T.k_draw T.bd_draw .nil pass0 (pa_cons (pv 0) (pa_cons pe_int pa_nil)))) (pa_cons (pv 6) pa_nil))) pa_nil)))) pss_nil)))
      (pss_one (ps_expr (pe_bm PySem.F.plainAttrs_list PySem.F.slot_list_append PySem.F.type_list_append (mt_append) (pv 2) (pa_cons (pv 5) pa_nil)))))))
    (pss_one (ps_ret (pv 2)))))), ?_⟩
  refine enterB h fun M b c ds pre _ => ?_
  obtain rfl : ds = [] := pre
  refine do_seq (do_par2N (by decide) (ev_callB rfl rfl (ea_cons (ev_int (ea_nil ⟨⟨7, rfl, by decide, by decide⟩, fun d hd => ?_⟩)))))
  obtain ⟨m, zs, e, rfl, hl, hz⟩ := hd
  cases e
  refine en_lst (ea_nil ⟨by decide, fun p => ?_⟩)
  refine do_letP (fun d => ∃ lo : Int, d = .int lo) (ev_ofL rfl rfl (ea_cons (ev_lst ?_))) ?_
  · repeat (first | walk_at "ev" | refine od_intC ⟨by decide, by decide, by decide⟩ ?_ | refine od_int ?_)
    refine ⟨by simp, ea_nil ⟨_, rfl, by simp, by simp, fun d hd => ?_⟩⟩
    simp only [List.mem_cons, List.not_mem_nil, or_false] at hd
    rcases hd with rfl | rfl | rfl | rfl | rfl <;> exact ⟨_, rfl⟩
  rintro _ ⟨lo, rfl⟩
  have hN : ∀ k : Nat, k ≤ 4 → True := fun _ _ => trivial
  refine do_seq (do_for (js := [4]) (PX := fun l => ∃ r : Int, 0 ≤ r ∧ r < 4 ∧ l = upto 0 (1 + r).toNat) (it_range1 (ea_cons (ev_op (ev_int (ev_draw rfl rfl (ea_cons (ev_int (ea_nil ⟨4, rfl, by decide, by decide, fun r h0 h1 => od_int (ea_nil ⟨1 + r, rfl, by omega, by omega, r, h0, h1, rfl⟩)⟩))))))))
    (fun l i δ => ∃ (gs : List Gr) (x y z : SD), δ = [.bag, .dat (.lst (zs.map .str)), .own p (.lst (gs.map lgD)), .dat (.int lo), x, y, z] ∧ gs.length = i ∧ i ≤ 4 ∧ ∀ g ∈ gs, g.length ≤ 7 ∧ (g.map Prod.snd).Nodup ∧ ∀ q ∈ g, isName (.str q.2) = true) (fun l ⟨r, h0, h1, e⟩ => ⟨[], _, _, _, rfl, rfl, by omega, fun g h => nomatch h⟩) ?_ ?_)
  · rintro l i x δ' ⟨r, r0, r1, rfl⟩ hi ⟨gs, u1, u2, u3, rfl, gl, i4, hg⟩
    obtain ⟨hlt, rfl⟩ := upto_get hi
    refine tg_name ?_
    refine do_seq (do_own (en_lst (ea_nil ⟨by decide, fun q => ?_⟩)))
    refine do_seq (do_for (js := [6]) (PX := fun l => ∃ ws : List Str, l = ws.map .str ∧ ws.Perm zs) (it_list (ev_callB rfl rfl (ea_cons (ev_var rfl (ea_nil ⟨⟨zs.map .str, rfl, by rw [List.length_map]; omega⟩, fun d hd => ?_⟩)))))
      (fun l j δ => ∃ (ws : List Str) (g : Gr) (x z : SD), l = ws.map .str ∧ ws.Perm zs ∧ δ = [.bag, .dat (.lst (zs.map .str)), .own p (.lst (gs.map lgD)), .dat (.int lo), x, .own q (.lst (g.map gD)), z] ∧ (g.map Prod.snd).Sublist (ws.take j)) ?_ ?_ ?_)
    · obtain ⟨xs, ys, e, rfl, pm⟩ := hd
      obtain rfl := D.lst.inj (List.cons.inj e).1
      obtain ⟨ws, rfl, pw⟩ := perm_strs pm
      exact ⟨_, rfl, ws, rfl, pw⟩
    · rintro l ⟨ws, rfl, pw⟩
      exact ⟨ws, [], _, _, rfl, pw, rfl, List.nil_sublist _⟩
    · rintro l j x δ' _ hj ⟨ws, g, x1, x2, rfl, pw, rfl, sb⟩
      rw [List.getElem?_map] at hj
      cases hq : ws[j]? with
      | none => rw [hq] at hj; cases hj
      | some nm =>
      rw [hq] at hj
      obtain rfl : D.str nm = x := Option.some.inj hj
      have hjl := (List.getElem?_eq_some_iff.mp hq).1
      have tk : ws.take (j + 1) = ws.take j ++ [nm] := by rw [List.take_succ, hq]; rfl
      have gl7 : g.length ≤ 7 := by
        have h1 := sb.length_le
        rw [List.length_map, List.length_take] at h1
        have := pw.length_eq
        omega
      refine tg_name (do_if (et_B (ev_op (ev_draw rfl rfl (ea_cons (ev_int (ea_nil ⟨2, rfl, by decide, by decide, fun r2 _ _ => ev_int (od_eq_int ⟨_, rfl, fun _ => ?_, fun _ => do_next ?_⟩)⟩)))))))
      · refine do_append (i := 5) (p := q) (ds := g.map gD) rfl (by rw [List.length_map]; omega) (ev_tup (ea_cons (ev_op (ev_var (d := .int lo) rfl (ev_draw rfl rfl (ea_cons (ev_int (ea_nil ⟨6, rfl, by decide, by decide, fun r3 _ _ => od_int (ea_cons (ev_var (d := .str nm) rfl (ea_nil ⟨by simp, ?_⟩)))⟩))))))))
        refine ⟨ws, g ++ [(lo + r3, nm)], _, _, rfl, pw, by rw [List.map_append]; rfl, ?_⟩
        rw [tk, List.map_append]
        exact sb.append (List.Sublist.refl _)
      · refine ⟨ws, g, _, _, rfl, pw, rfl, ?_⟩
        rw [tk]
        exact sb.trans (List.sublist_append_left _ _)
    · rintro l δ' _ ⟨ws, g, x1, x2, rfl, pw, rfl, sb⟩
      rw [List.length_map, List.take_length] at sb
      refine do_freeze (i := 5) (p := q) rfl ?_
      refine do_append (i := 2) (p := p) (ds := gs.map lgD) rfl (by rw [List.length_map]; omega) (ev_var (d := .lst (g.map gD)) rfl ?_)
      refine ⟨gs ++ [g], _, _, _, by rw [List.map_append]; rfl, by simp [gl], by omega, fun g' hg' => ?_⟩
      rcases List.mem_append.mp hg' with h | h
      · exact hg g' h
      · rw [List.mem_singleton.mp h]
        refine ⟨?_, sb.nodup (pw.nodup_iff.mpr hz.nd), fun q hq => hz.nm _ (pw.mem_iff.mp (sb.subset (List.mem_map_of_mem hq)))⟩
        have h1 := sb.length_le
        rw [List.length_map] at h1
        have := pw.length_eq
        omega
  · rintro l δ' ⟨r, r0, r1, rfl⟩ ⟨gs, u1, u2, u3, rfl, gl, i4, hg⟩
    rw [upto_len] at gl
    refine do_freeze (i := 2) (p := p) rfl (do_ret (ev_var (d := .lst (gs.map lgD)) rfl ⟨gs, rfl, by omega, by omega, fun g h => (hg g h).1, fun g h => (hg g h).2.1, fun g h => (hg g h).2.2⟩))

end Pf

set_option maxHeartbeats 16000000
namespace Pf
open PySem L2 PfL RZ
local macro_rules | `(tactic| walk_at "ev") => `(tactic| first
  | ((with_reducible refine' ev_var ?h ?_); (case h => rfl))
  | with_reducible refine ev_int ?_
  | with_reducible refine ev_bl ?_
  | with_reducible refine ev_str ?_
  | with_reducible refine ev_non ?_
  | with_reducible refine ev_ty ?_
  | with_reducible refine ev_op ?_
  | with_reducible refine ev_un ?_
  | with_reducible refine ev_chain ?_
  | with_reducible refine ev_if ?_
  | with_reducible refine ev_and ?_
  | with_reducible refine ev_or ?_
  | with_reducible refine ev_not ?_
  | with_reducible refine ev_lst ?_
  | with_reducible refine ev_tup ?_
  | with_reducible refine ea_nil ?_
  | with_reducible refine ea_cons ?_
  | with_reducible refine ev_cb ?_
  | with_reducible refine et_test ?_
  | with_reducible refine et_B ?_
  | with_reducible refine et_and ?_
  | with_reducible refine et_or ?_
  | with_reducible refine et_not ?_
  | with_reducible refine et_yes ?_
  | with_reducible refine eo_none ?_
  | with_reducible refine eo_some ?_
  | with_reducible refine ev_slS ?_
  | with_reducible refine od_int ?_
  | with_reducible refine od_bl ?_
  | with_reducible refine od_eq_int ?_
  | with_reducible refine od_ne_int ?_
  | with_reducible refine od_eq_bl ?_
  | with_reducible refine od_ne_bl ?_
  | with_reducible refine od_eq_str ?_
  | with_reducible refine od_ne_str ?_
  | with_reducible refine od_leS ?_
  | with_reducible refine ud_isN ?_
  | with_reducible refine ud_notN ?_
  | with_reducible refine do_seq ?_
  | with_reducible refine do_set ?_
  | with_reducible refine do_ret ?_
  | with_reducible refine do_retN ?_
  | with_reducible refine do_if ?_
  | with_reducible refine do_next ?_
  | with_reducible refine tg_name ?_
  | with_reducible refine tgs_nil ?_
  | with_reducible refine tgs_cons ?_)
/-! ### the order of groups -/
/-! ### totals in words: the names in the order of their first pair, and what each has -/
def nmStep (ns : List Str) (p : Int × Str) : List Str := if p.2 ∈ ns then ns else ns ++ [p.2]
def namesL (ps : Gr) : List Str := ps.foldl nmStep []
def valsL (ps : Gr) (z : Str) : List Int := (ps.filter fun p => decide (p.2 = z)).map Prod.fst
def totL (way : Str) : List Int → Int
  | [] => 0
  | v :: vs => vs.foldl (joinG way) v
theorem totL_snoc {way : Str} {vs : List Int} {a : Int} (h : vs ≠ []) : totL way (vs ++ [a]) = joinG way (totL way vs) a := by
  cases vs with
  | nil => exact absurd rfl h
  | cons v vs => simp [totL, List.foldl_append]
def totList (way : Str) (ps : Gr) : Gr := (namesL ps).map fun z => (totL way (valsL ps z), z)
theorem valsL_snoc (ps : Gr) (p : Int × Str) (z : Str) : valsL (ps ++ [p]) z = valsL ps z ++ (if p.2 = z then [p.1] else []) := by
  unfold valsL
  rw [List.filter_append, List.map_append]
  by_cases h : p.2 = z
  · simp [h]
  · simp [h]
theorem namesL_snoc (ps : Gr) (p : Int × Str) : namesL (ps ++ [p]) = nmStep (namesL ps) p := by simp [namesL, List.foldl_append]
/-- by one more pair, from the left on -/
theorem snoc_ind {P : Gr → Prop} (h0 : P []) (h1 : ∀ ps p, P ps → P (ps ++ [p])) (ps : Gr) : P ps := by
  have key : ∀ n, n ≤ ps.length → P (ps.take n) := fun n => by
    induction n with
    | zero => intro _; rw [List.take_zero]; exact h0
    | succ n ih =>
      intro hn
      have : ps.take (n + 1) = ps.take n ++ [ps[n]] := by rw [List.take_succ, List.getElem?_eq_getElem (by omega)]; rfl
      rw [this]
      exact h1 _ _ (ih (by omega))
  have := key ps.length (Nat.le_refl _)
  rwa [List.take_length] at this
theorem mem_namesL {z : Str} (ps : Gr) : z ∈ namesL ps ↔ ∃ a, (a, z) ∈ ps := by
  refine snoc_ind (P := fun ps => z ∈ namesL ps ↔ ∃ a, (a, z) ∈ ps) ?_ (fun ps p ih => ?_) ps
  · simp [namesL]
  · rw [namesL_snoc]
    unfold nmStep
    constructor
    · intro h
      split at h
      · obtain ⟨a, ha⟩ := ih.mp h
        exact ⟨a, List.mem_append_left _ ha⟩
      · rcases List.mem_append.mp h with h | h
        · obtain ⟨a, ha⟩ := ih.mp h
          exact ⟨a, List.mem_append_left _ ha⟩
        · rw [List.mem_singleton.mp h]
          exact ⟨p.1, by simp⟩
    · rintro ⟨a, ha⟩
      rcases List.mem_append.mp ha with h | h
      · have := ih.mpr ⟨a, h⟩
        split
        · exact this
        · exact List.mem_append_left _ this
      · have e : p = (a, z) := (List.mem_singleton.mp h).symm
        subst e
        split
        · assumption
        · simp
theorem mem_valsL {ps : Gr} {z : Str} {a : Int} : a ∈ valsL ps z ↔ (a, z) ∈ ps := by
  unfold valsL
  rw [List.mem_map]
  constructor
  · rintro ⟨p, hp, rfl⟩
    have hp := List.mem_filter.mp hp
    have e : p.2 = z := by simpa using hp.2
    rw [← e]
    exact hp.1
  · intro h
    exact ⟨(a, z), List.mem_filter.mpr ⟨h, by simp⟩, rfl⟩
theorem valsL_ne {ps : Gr} {z : Str} : valsL ps z ≠ [] ↔ z ∈ namesL ps := by
  rw [mem_namesL]
  constructor
  · intro h
    obtain ⟨a, ha⟩ := List.exists_mem_of_ne_nil _ h
    exact ⟨a, mem_valsL.mp ha⟩
  · rintro ⟨a, ha⟩ e
    have := mem_valsL.mpr ha
    rw [e] at this
    cases this
theorem getT_map {M : Str → Int} (ns : List Str) (z : Str) : getT (ns.map fun z => (M z, z)) z = if z ∈ ns then some (M z) else none := by
  induction ns with
  | nil => rfl
  | cons n ns ih =>
    unfold getT at ih ⊢
    rw [List.map_cons, List.find?_cons]
    by_cases h : n = z
    · subst h
      simp
    · rw [decide_eq_false (show ¬ (M n, n).2 = z from h)]
      show Option.map Prod.fst (List.find? _ _) = _
      rw [ih]
      have : (z ∈ n :: ns) ↔ z ∈ ns := by
        rw [List.mem_cons]
        exact ⟨fun h' => h'.elim (fun e => absurd e.symm h) id, .inr⟩
      simp only [this]
theorem any_map {M : Str → Int} (ns : List Str) (z : Str) : ((ns.map fun z => (M z, z)).any fun p : Int × Str => decide (p.2 = z)) = decide (z ∈ ns) := by
  rw [List.any_map]
  by_cases h : z ∈ ns
  · rw [decide_eq_true h]
    exact List.any_eq_true.mpr ⟨z, h, by simp⟩
  · rw [decide_eq_false h]
    exact List.any_eq_false.mpr fun y hy => by
      simp only [Function.comp_apply, decide_eq_true_eq]
      exact fun e => h (e ▸ hy)
theorem tots_words (way : Str) (ps : Gr) : ps.foldl (putG way) [] = totList way ps := by
  refine snoc_ind (P := fun ps => ps.foldl (putG way) [] = totList way ps) rfl (fun ps p ih => ?_) ps
  rw [List.foldl_append, ih]
  show putG way (totList way ps) p = _
  obtain ⟨a, z⟩ := p
  unfold putG totList setT
  rw [getT_map, any_map, namesL_snoc]
  unfold nmStep
  by_cases h : z ∈ namesL ps
  · rw [if_pos (decide_eq_true h)]
    simp only [if_pos h]
    rw [List.map_map]
    refine List.map_congr_left fun y hy => ?_
    simp only [Function.comp_apply]
    by_cases e : y = z
    · subst e
      rw [if_pos rfl, valsL_snoc, if_pos rfl, totL_snoc (valsL_ne.mpr hy)]
    · rw [if_neg e, valsL_snoc, if_neg (fun q => e q.symm), List.append_nil]
  · rw [if_neg (by simp [h])]
    simp only [if_neg h]
    rw [List.map_append]
    congr 1
    · refine List.map_congr_left fun y hy => ?_
      have e : ¬ z = y := fun q => h (q ▸ hy)
      rw [valsL_snoc, if_neg e, List.append_nil]
    · have e : valsL ps z = [] := by
        by_cases q : valsL ps z = []
        · exact q
        · exact absurd (valsL_ne.mp q) h
      simp [valsL_snoc, e, totL]
theorem totsOf_words (way : Str) (gs : List Gr) : totsOf way gs = totList way gs.flatten := by
  rw [← tots_words, List.foldl_flatten]
  rfl
/-! the least -/
theorem join_least (a b : Int) : joinG "least" a b = min a b := by
  unfold joinG
  rw [if_pos rfl]
theorem totL_least : ∀ {vs : List Int}, vs ≠ [] → totL "least" vs ∈ vs ∧ ∀ v ∈ vs, totL "least" vs ≤ v := by
  have key : ∀ (vs : List Int) (a : Int), vs.foldl (joinG "least") a ∈ a :: vs ∧ ∀ v ∈ a :: vs, vs.foldl (joinG "least") a ≤ v := by
    intro vs
    induction vs with
    | nil => intro a; simp
    | cons v vs ih =>
      intro a
      rw [List.foldl_cons, join_least]
      obtain ⟨h1, h2⟩ := ih (min a v)
      refine ⟨?_, fun u hu => ?_⟩
      · rcases List.mem_cons.mp h1 with e | h
        · rw [e]
          rcases Int.le_total a v with h | h
          · rw [Int.min_eq_left h]; simp
          · rw [Int.min_eq_right h]; simp
        · exact List.mem_cons_of_mem _ (List.mem_cons_of_mem _ h)
      · have h3 := h2 (min a v) (by simp)
        rcases List.mem_cons.mp hu with rfl | hu
        · exact Int.le_trans h3 (Int.min_le_left _ _)
        rcases List.mem_cons.mp hu with rfl | hu
        · exact Int.le_trans h3 (Int.min_le_right _ _)
        · exact h2 u (List.mem_cons_of_mem _ hu)
  intro vs h
  cases vs with
  | nil => exact absurd rfl h
  | cons v vs => exact key vs v
end Pf

set_option maxHeartbeats 16000000
namespace Pf
open PySem L2 PfL RZ
local macro_rules | `(tactic| walk_at "ev") => `(tactic| first
  | ((with_reducible refine' ev_var ?h ?_); (case h => rfl))
  | with_reducible refine ev_int ?_
  | with_reducible refine ev_bl ?_
  | with_reducible refine ev_str ?_
  | with_reducible refine ev_non ?_
  | with_reducible refine ev_ty ?_
  | with_reducible refine ev_op ?_
  | with_reducible refine ev_un ?_
  | with_reducible refine ev_chain ?_
  | with_reducible refine ev_if ?_
  | with_reducible refine ev_and ?_
  | with_reducible refine ev_or ?_
  | with_reducible refine ev_not ?_
  | with_reducible refine ev_lst ?_
  | with_reducible refine ev_tup ?_
  | with_reducible refine ea_nil ?_
  | with_reducible refine ea_cons ?_
  | with_reducible refine ev_cb ?_
  | with_reducible refine et_test ?_
  | with_reducible refine et_B ?_
  | with_reducible refine et_and ?_
  | with_reducible refine et_or ?_
  | with_reducible refine et_not ?_
  | with_reducible refine et_yes ?_
  | with_reducible refine eo_none ?_
  | with_reducible refine eo_some ?_
  | with_reducible refine ev_slS ?_
  | with_reducible refine od_int ?_
  | with_reducible refine od_bl ?_
  | with_reducible refine od_eq_int ?_
  | with_reducible refine od_ne_int ?_
  | with_reducible refine od_eq_bl ?_
  | with_reducible refine od_ne_bl ?_
  | with_reducible refine od_eq_str ?_
  | with_reducible refine od_ne_str ?_
  | with_reducible refine od_leS ?_
  | with_reducible refine ud_isN ?_
  | with_reducible refine ud_notN ?_
  | with_reducible refine do_seq ?_
  | with_reducible refine do_set ?_
  | with_reducible refine do_ret ?_
  | with_reducible refine do_retN ?_
  | with_reducible refine do_if ?_
  | with_reducible refine do_next ?_
  | with_reducible refine tg_name ?_
  | with_reducible refine tgs_nil ?_
  | with_reducible refine tgs_cons ?_)
/-! ### the first groups by the least: what the parts send of their first pairs is enough -/
theorem take_sub {g : Gr} {k : Int} {x : Int × Str} (h : x ∈ cutG k g) : x ∈ g := (sortG_perm g).mem_iff.mp (List.mem_of_mem_take h)
/-! one part -/
theorem cutG_nd {k : Int} {g : Gr} (nd : (g.map Prod.snd).Nodup) : ((cutG k g).map Prod.snd).Nodup := by
  have h1 : ((sortG g).map Prod.snd).Nodup := ((sortG_perm g).map Prod.snd).nodup_iff.mpr nd
  exact h1.sublist ((List.take_sublist _ _).map _)
/-! ### the law's own totals -/
theorem namesL_app {ps g : Gr} (nd : (g.map Prod.snd).Nodup) : namesL (ps ++ g) = namesL ps ++ (g.map Prod.snd).filter fun z => !decide (z ∈ namesL ps) := by
  revert nd
  refine snoc_ind (P := fun g => (g.map Prod.snd).Nodup → namesL (ps ++ g) = namesL ps ++ (g.map Prod.snd).filter fun z => !decide (z ∈ namesL ps)) (fun _ => by simp) (fun g p ih h => ?_) g
  rw [List.map_append, List.nodup_append] at h
  rw [← List.append_assoc, namesL_snoc, ih h.1, List.map_append, List.filter_append]
  unfold nmStep
  have hno : p.2 ∉ (g.map Prod.snd).filter (fun z => !decide (z ∈ namesL ps)) := fun hm => h.2.2 p.2 (List.mem_filter.mp hm).1 p.2 (by simp) rfl
  by_cases hin : p.2 ∈ namesL ps
  · rw [if_pos (List.mem_append_left _ hin)]
    simp [hin]
  · rw [if_neg fun hm => (List.mem_append.mp hm).elim hin hno]
    simp [hin]
theorem valsL_app (ps g : Gr) (z : Str) : valsL (ps ++ g) z = valsL ps z ++ valsL g z := by
  unfold valsL
  rw [List.filter_append, List.map_append]
theorem tot_min {ns : List Int} (h : ns ≠ []) : totL "least" ns = minI ns := by
  obtain ⟨h1, h2⟩ := totL_least h
  exact Int.le_antisymm (h2 _ (minI_mem h)) (minI_le h1)
theorem join_greatest (a b : Int) : joinG "greatest" a b = max a b := by
  unfold joinG
  rw [if_neg (by decide +kernel), if_pos rfl]
theorem tot_max {ns : List Int} (h : ns ≠ []) : totL "greatest" ns = maxI ns := by
  have key : ∀ (vs : List Int) (a : Int), vs.foldl (joinG "greatest") a ∈ a :: vs ∧ ∀ v ∈ a :: vs, v ≤ vs.foldl (joinG "greatest") a := by
    intro vs
    induction vs with
    | nil => intro a; simp
    | cons v vs ih =>
      intro a
      rw [List.foldl_cons, join_greatest]
      obtain ⟨h1, h2⟩ := ih (max a v)
      refine ⟨?_, fun u hu => ?_⟩
      · rcases List.mem_cons.mp h1 with e | h
        · rw [e]
          rcases Int.le_total a v with h | h
          · rw [Int.max_eq_right h]; simp
          · rw [Int.max_eq_left h]; simp
        · exact List.mem_cons_of_mem _ (List.mem_cons_of_mem _ h)
      · have h3 := h2 (max a v) (by simp)
        rcases List.mem_cons.mp hu with rfl | hu
        · exact Int.le_trans (Int.le_max_left _ _) h3
        rcases List.mem_cons.mp hu with rfl | hu
        · exact Int.le_trans (Int.le_max_right _ _) h3
        · exact h2 u (List.mem_cons_of_mem _ hu)
  cases ns with
  | nil => exact absurd rfl h
  | cons v vs =>
    obtain ⟨h1, h2⟩ := key vs v
    exact Int.le_antisymm (le_maxI h1) (h2 _ (maxI_mem h))
theorem tot_sum {way : Str} (h1 : way ≠ "least") (h2 : way ≠ "greatest") {ns : List Int} : totL way ns = ns.sum := by
  have key : ∀ (vs : List Int) (a : Int), vs.foldl (joinG way) a = a + vs.sum := by
    intro vs
    induction vs with
    | nil => intro a; simp
    | cons v vs ih =>
      intro a
      rw [List.foldl_cons, ih, joinG, if_neg h1, if_neg h2, List.sum_cons]
      omega
  cases ns with
  | nil => rfl
  | cons v vs =>
    show vs.foldl (joinG way) v = _
    rw [key, List.sum_cons]
theorem ok_total {P : Program} {w : World} {K : PySem.W.Frag} {mg : Str → Option Value} {base : Heap} (T : Txt K mg) : FnOk P w K mg base CX0 4 T.f_total T.fd_total ["_law_some", "_law_way_z"] (spD K (fun ds => ∃ ns y, ds = [.lst (ns.map .int), .str y] ∧ ns ≠ []) (fun ds d => ∃ ns y, ds = [.lst (ns.map .int), .str y] ∧ d = .int (totL y ns))) := by
  refine T.F_total.ok sc_total (spD_len fun ds ⟨ns, y, e, _⟩ => by rw [e]; rfl) (fun cdv A outer s H vs Q E hr h => ?_)
  refine ⟨_, (pss_cons (ps_if (pt_cmpR op_eq (pv 1) pe_str (nomark _)) (pss_one (ps_ret (pe_callB (callMin K) (by rfl) T.b_min (by decide +kernel) (pa_cons (pv 0) pa_nil)))) pss_nil)
    (pss_one (ps_ret (pe_ifExp (pt_cmpR op_eq (pv 1) pe_str (nomark _)) (pe_callB (callMax K) (by rfl) T.b_max (by decide +kernel) (pa_cons (pv 0) pa_nil)) (pe_callB (callSum K) (by rfl) T.b_sum (by decide +kernel) (pa_cons (pv 0) pa_nil)))))), ?_⟩
  refine enterD h fun M ds pre _ => ?_
  obtain ⟨ns, y, rfl, hn⟩ := pre
  refine do_seq (do_if (et_B (ev_op (ev_var rfl (ev_str (od_eq_str ⟨_, rfl, fun h1 => ?_, fun h1 => do_next ?_⟩))))))
  · refine do_ret (ev_cb (ea_cons (ev_var rfl (ea_nil (cd_min hn ⟨ns, y, rfl, ?_⟩)))))
    rw [of_decide_eq_true h1, tot_min hn]
  refine do_ret (ev_if (et_B (ev_op (ev_var rfl (ev_str (od_eq_str ⟨_, rfl, fun h2 => ?_, fun h2 => ?_⟩))))))
  · refine ev_cb (ea_cons (ev_var rfl (ea_nil (cd_max hn ⟨ns, y, rfl, ?_⟩))))
    rw [of_decide_eq_true h2, tot_max hn]
  · refine ev_cb (ea_cons (ev_var rfl (ea_nil (cd_sum ⟨ns, y, rfl, ?_⟩))))
    rw [tot_sum (of_decide_eq_false h1) (of_decide_eq_false h2)]

end Pf

set_option maxHeartbeats 16000000
namespace Pf
open PySem L2 PfL RZ
local macro_rules | `(tactic| walk_at "ev") => `(tactic| first
  | ((with_reducible refine' ev_var ?h ?_); (case h => rfl))
  | with_reducible refine ev_int ?_
  | with_reducible refine ev_bl ?_
  | with_reducible refine ev_str ?_
  | with_reducible refine ev_non ?_
  | with_reducible refine ev_ty ?_
  | with_reducible refine ev_op ?_
  | with_reducible refine ev_un ?_
  | with_reducible refine ev_chain ?_
  | with_reducible refine ev_if ?_
  | with_reducible refine ev_and ?_
  | with_reducible refine ev_or ?_
  | with_reducible refine ev_not ?_
  | with_reducible refine ev_lst ?_
  | with_reducible refine ev_tup ?_
  | with_reducible refine ea_nil ?_
  | with_reducible refine ea_cons ?_
  | with_reducible refine ev_cb ?_
  | with_reducible refine et_test ?_
  | with_reducible refine et_B ?_
  | with_reducible refine et_and ?_
  | with_reducible refine et_or ?_
  | with_reducible refine et_not ?_
  | with_reducible refine et_yes ?_
  | with_reducible refine eo_none ?_
  | with_reducible refine eo_some ?_
  | with_reducible refine ev_slS ?_
  | with_reducible refine od_int ?_
  | with_reducible refine od_bl ?_
  | with_reducible refine od_eq_int ?_
  | with_reducible refine od_ne_int ?_
  | with_reducible refine od_eq_bl ?_
  | with_reducible refine od_ne_bl ?_
  | with_reducible refine od_eq_str ?_
  | with_reducible refine od_ne_str ?_
  | with_reducible refine od_leS ?_
  | with_reducible refine ud_isN ?_
  | with_reducible refine ud_notN ?_
  | with_reducible refine do_seq ?_
  | with_reducible refine do_set ?_
  | with_reducible refine do_ret ?_
  | with_reducible refine do_retN ?_
  | with_reducible refine do_if ?_
  | with_reducible refine do_next ?_
  | with_reducible refine tg_name ?_
  | with_reducible refine tgs_nil ?_
  | with_reducible refine tgs_cons ?_)
/-! ### the law's first groups, and when no parts are told -/
theorem grs_of (gs : List Gr) : (gs.map lgD).map grOf = gs := by
  rw [List.map_map]
  conv => rhs; rw [← List.map_id gs]
  exact List.map_congr_left fun g _ => grOf_lst g
theorem namesL_len (ps : Gr) : (namesL ps).length ≤ ps.length := by
  refine snoc_ind (P := fun ps => (namesL ps).length ≤ ps.length) (Nat.le_refl _) (fun ps p ih => ?_) ps
  rw [namesL_snoc]
  unfold nmStep
  split
  · rw [List.length_append]
    omega
  · rw [List.length_append, List.length_append]
    simp only [List.length_singleton]
    omega
theorem flat_len {gs : List Gr} (h : ∀ g ∈ gs, g.length ≤ 7) : gs.flatten.length ≤ 7 * gs.length := by
  induction gs with
  | nil => simp
  | cons g gs ih =>
    have h1 := ih fun x hx => h x (List.mem_cons_of_mem _ hx)
    have h2 := h g (by simp)
    simp only [List.flatten_cons, List.length_append, List.length_cons]
    omega
theorem valsL_len (ps : Gr) (z : Str) : (valsL ps z).length ≤ ps.length := by
  unfold valsL
  rw [List.length_map]
  exact List.length_filter_le _ _
theorem flat_take {gs : List Gr} {i : Nat} {g : Gr} (h : gs[i]? = some g) : (gs.take (i + 1)).flatten = (gs.take i).flatten ++ g := by
  rw [List.take_succ, h]
  simp
theorem lgs_get {gs : List Gr} {i : Nat} {x : D} (h : (gs.map lgD)[i]? = some x) : ∃ g, gs[i]? = some g ∧ x = lgD g := by
  rw [List.getElem?_map] at h
  cases hq : gs[i]? with
  | none => rw [hq] at h; cases h
  | some g =>
    rw [hq] at h
    exact ⟨g, rfl, (Option.some.inj h).symm⟩
theorem gds_get {g : Gr} {i : Nat} {x : D} (h : (g.map gD)[i]? = some x) : ∃ q, g[i]? = some q ∧ x = gD q := by
  rw [List.getElem?_map] at h
  cases hq : g[i]? with
  | none => rw [hq] at h; cases h
  | some q =>
    rw [hq] at h
    exact ⟨q, rfl, (Option.some.inj h).symm⟩
theorem txs_get {zs : List Str} {i : Nat} {x : D} (h : (txsD zs)[i]? = some x) : ∃ z, zs[i]? = some z ∧ x = .str z := by
  unfold txsD at h
  rw [List.getElem?_map] at h
  cases hq : zs[i]? with
  | none => rw [hq] at h; cases h
  | some q =>
    rw [hq] at h
    exact ⟨q, rfl, (Option.some.inj h).symm⟩
def preFs : List D → Prop := fun ds => ∃ gs n y, ds = [.lst (gs.map lgD), .int n, .str y] ∧ GpOk gs ∧ 0 ≤ n
theorem ok_firsts {P : Program} {w : World} {K : PySem.W.Frag} {mg : Str → Option Value} {base : Heap} (T : Txt K mg) : FnOk P w K mg base CX0 12 T.f_firsts T.fd_firsts ["_law_parts_z", "_law_size_z", "_law_way_z"] (spD K preFs poFt) := by
  refine T.F_firsts.ok sc_firsts (spD_len fun ds ⟨gs, n, y, e, _⟩ => by rw [e]; rfl) (fun cdv A outer s H vs Q E hr h => ?_)
  refine ⟨_, (pss_cons (ps_asg (pe_tup (pa_cons (pe_lst pa_nil) (pa_cons (pe_lst pa_nil) pa_nil))) (pgTup K (n := 2) rfl (pgs_cons (pg_name (i := 3) sc_firsts.nd rfl (Or.inr rfl)) (pgs_cons (pg_name (i := 4) sc_firsts.nd rfl (Or.inl rfl)) pgs_nil))))
    (pss_cons (ps_for PassesOwn.never rfl (piL K (pv 0)) (pg_name (i := 5) sc_firsts.nd rfl (Or.inl rfl))
      (pss_one (ps_set (i := 3) sc_firsts.nd rfl (Or.inr rfl) (pe_op op_cat (pv 3) (pe_lc (own := [("_law_pair", 8)]) rfl sc_firsts.nd (piL K (pv 5)) (blkOk_by (N := N_firsts) (sc := defScope s_firsts) (by decide +kernel)) (fun _ _ _ _ _ => (pg_name (i := 8) sc_firsts.nd rfl (Or.inl rfl))) (fun _ _ _ _ _ => (pts_one (pt_cmpR (opNotIn K) (pe_ix (ixT K) (pv 8) pe_int (fun _ _ => rfl)) (pv 3) (by with_unfolding_all rfl)))) (fun _ _ _ _ _ => (pe_ix (ixT K) (pv 8) pe_int (fun _ _ => rfl))))))))
    (pss_cons (ps_for PassesOwn.never rfl (piL K (pv 3)) (pg_name (i := 6) sc_firsts.nd rfl (Or.inr rfl))
      (pss_cons (ps_set (i := 7) sc_firsts.nd rfl (Or.inl rfl) (pe_lst pa_nil))
      (pss_cons (ps_for PassesOwn.never rfl (piL K (pv 0)) (pg_name (i := 5) sc_firsts.nd rfl (Or.inl rfl))
        (pss_one (ps_set (i := 7) sc_firsts.nd rfl (Or.inl rfl) (pe_op op_cat (pv 7) (pe_lc (own := [("_law_pair", 8)]) rfl sc_firsts.nd (piL K (pv 5)) (blkOk_by (N := N_firsts) (sc := defScope s_firsts) (by decide +kernel)) (fun _ _ _ _ _ => (pg_name (i := 8) sc_firsts.nd rfl (Or.inl rfl))) (fun _ _ _ _ _ => (pts_one (pt_cmpR op_eq (pe_ix (ixT K) (pv 8) pe_int (fun _ _ => rfl)) (pv 6) (nomark _)))) (fun _ _ _ _ _ => (pe_ix (ixT K) (pv 8) pe_int (fun _ _ => rfl))))))))
      (pss_one (ps_expr (pe_bm PySem.F.plainAttrs_list PySem.F.slot_list_append PySem.F.type_list_append (mt_append) (pv 4) (pa_cons (pe_tup (pa_cons (pe_call (ok_total T) (hr.mono (by decide)) rfl T.g_total T.k_total T.bd_total .nil pass0 (pa_cons (pv 7) (pa_cons (pv 2) pa_nil))) (pa_cons (pv 6) pa_nil))) pa_nil)))))))
    (pss_one (ps_ret (pe_slice (slL K) (pe_callB (cr_sortA K hr.units) (by rfl) T.b_sorted (by decide +kernel) (pa_cons (pv 4) pa_nil)) po_none (po_some (pv 1)))))))), ?_⟩
  refine enterD h fun M ds pre _ => ?_
  obtain ⟨gs, n, y, rfl, gok, hn⟩ := pre
  have n1 := gok.n1
  have fl : ∀ i, ((gs.take i).flatten).length ≤ 28 := fun i => by
    have := flat_len (gs := gs.take i) fun g hg => gok.ln g (List.mem_of_mem_take hg)
    rw [List.length_take] at this
    omega
  refine do_seq (do_asgN (ev_lst (ea_nil ⟨by decide, en_lst (ea_nil ⟨by decide, fun p => ?_⟩)⟩)))
  refine do_seq (do_for (js := [5]) (PX := fun l => l = gs.map lgD) (it_list (ev_var rfl ⟨_, rfl, rfl⟩)) (fun l i δ => ∃ a, δ = [.dat (.lst (gs.map lgD)), .dat (.int n), .dat (.str y), .dat (.lst (txsD (namesL ((gs.take i).flatten)))), .own p (.lst []), a, .un, .un, .un]) (fun l e => ⟨_, rfl⟩) ?_ ?_)
  · rintro l i x δ' rfl hi ⟨a, rfl⟩
    obtain ⟨g, hg, rfl⟩ := lgs_get hi
    have hm := List.mem_of_getElem? hg
    have h1 := namesL_len ((gs.take i).flatten)
    have h2 := fl i
    have h3 := gok.ln g hm
    rw [flat_take hg, namesL_app (gok.nd g hm)]
    generalize namesL ((gs.take i).flatten) = N at h1 ⊢
    refine tg_name (do_set (ev_op (ev_var (d := .lst (txsD N)) rfl (EvN.ev ?_))))
    refine en_lc (js := [8]) (PX := fun l => l = g.map gD) (it_list (ev_var rfl ⟨_, rfl, rfl⟩)) (fun l e => by rw [e, List.length_map]; omega) (by decide) (fun l j acc => acc = txsD (((g.take j).map Prod.snd).filter fun z => !decide (z ∈ N))) (fun l e => rfl) ?_ ?_
    · rintro l j x acc rfl hj rfl
      obtain ⟨q, hq, rfl⟩ := gds_get hj
      have tk : ((g.take (j + 1)).map Prod.snd).filter (fun z => !decide (z ∈ N)) = ((g.take j).map Prod.snd).filter (fun z => !decide (z ∈ N)) ++ [q.2].filter (fun z => !decide (z ∈ N)) := by
        rw [List.take_succ, hq, List.map_append, List.filter_append]
        rfl
      rw [tk]
      refine tg_name (et_B (ev_op (ev_op (ev_var (d := gD q) rfl (ev_int (od_ixT (d := .str q.2) rfl (ev_var (d := .lst (txsD N)) rfl (od_inStrs (zs := N) (neg := true) (t := false) ⟨_, rfl, fun hb => ?_, fun hb => ?_⟩))))))))
      · refine ev_op (ev_var (d := gD q) rfl (ev_int (od_ixT (d := .str q.2) rfl ?_)))
        have hb : (!decide (q.2 ∈ N)) = true := hb
        unfold txsD
        simp only [List.map_append, List.filter_cons, hb, if_true, List.filter_nil, List.map_cons, List.map_nil]
      · have hb : (!decide (q.2 ∈ N)) = false := hb
        simp only [List.filter_cons, hb, List.filter_nil, List.append_nil]
        simp
    · rintro l ds rfl rfl
      rw [List.length_map, List.take_length]
      have h4 : ((g.map Prod.snd).filter fun z => !decide (z ∈ N)).length ≤ g.length := by
        have := List.length_filter_le (fun z => !decide (z ∈ N)) (g.map Prod.snd)
        rwa [List.length_map] at this
      refine od_cat (by unfold txsD; rw [List.length_map, List.length_map]; omega) ?_
      refine ⟨.dat (lgD g), ?_⟩
      show _ = [SD.dat (.lst (gs.map lgD)), .dat (.int n), .dat (.str y), .dat (.lst (txsD (N ++ _))), .own p (.lst []), _, .un, .un, .un]
      unfold txsD
      rw [List.map_append]
      rfl
  rintro l δ' rfl ⟨a, rfl⟩
  rw [List.length_map, List.take_length]
  have hfl := fl gs.length
  rw [List.take_length] at hfl
  generalize hps : gs.flatten = ps at hfl
  have hN : ∀ z ∈ namesL ps, valsL ps z ≠ [] := fun z hz => valsL_ne.mpr hz
  have hNl := namesL_len ps
  generalize hNN : namesL ps = N at hN hNl
  refine do_seq (do_for (js := [6]) (PX := fun l => l = txsD N) (it_list (ev_var rfl ⟨_, rfl, rfl⟩)) (fun l i δ => ∃ a b c, δ = [.dat (.lst (gs.map lgD)), .dat (.int n), .dat (.str y), .dat (.lst (txsD N)), .own p (.lst (((N.take i).map fun z => (totL y (valsL ps z), z)).map gD)), a, b, c, .un]) (fun l e => ⟨_, _, _, rfl⟩) ?_ ?_)
  · rintro l i x δ' rfl hi ⟨a, b, c, rfl⟩
    obtain ⟨z, hz, rfl⟩ := txs_get hi
    have hlt := (List.getElem?_eq_some_iff.mp hz).1
    refine tg_name ?_
    refine do_seq (do_set (ev_lst (ea_nil ⟨by decide, ?_⟩)))
    refine do_seq (do_for (js := [5]) (PX := fun l => l = gs.map lgD) (it_list (ev_var rfl ⟨_, rfl, rfl⟩)) (fun l j δ => ∃ a, δ = [.dat (.lst (gs.map lgD)), .dat (.int n), .dat (.str y), .dat (.lst (txsD N)), .own p (.lst (((N.take i).map fun z => (totL y (valsL ps z), z)).map gD)), a, .dat (.str z), .dat (.lst ((valsL ((gs.take j).flatten) z).map .int)), .un]) (fun l e => ⟨_, rfl⟩) ?_ ?_)
    · rintro l j x δ' rfl hj ⟨a, rfl⟩
      obtain ⟨g, hg, rfl⟩ := lgs_get hj
      have hm := List.mem_of_getElem? hg
      have h1 := valsL_len ((gs.take j).flatten) z
      have h2 := fl j
      have h3 := gok.ln g hm
      rw [flat_take hg, valsL_app]
      generalize valsL ((gs.take j).flatten) z = V0 at h1 ⊢
      refine tg_name (do_set (ev_op (ev_var (d := .lst (V0.map .int)) rfl (EvN.ev ?_))))
      refine en_lc (js := [8]) (PX := fun l => l = g.map gD) (it_list (ev_var rfl ⟨_, rfl, rfl⟩)) (fun l e => by rw [e, List.length_map]; omega) (by decide) (fun l j acc => acc = (valsL (g.take j) z).map .int) (fun l e => rfl) ?_ ?_
      · rintro l j x acc rfl hj rfl
        obtain ⟨q, hq, rfl⟩ := gds_get hj
        have tk : g.take (j + 1) = g.take j ++ [q] := by rw [List.take_succ, hq]; rfl
        rw [tk, valsL_snoc]
        refine tg_name (et_B (ev_op (ev_op (ev_var (d := gD q) rfl (ev_int (od_ixT (d := .str q.2) rfl (ev_var (d := .str z) rfl (od_eq_str ⟨_, rfl, fun hb => ?_, fun hb => ?_⟩))))))))
        · rw [if_pos (of_decide_eq_true hb), List.map_append]
          exact ev_op (ev_var (d := gD q) rfl (ev_int (od_ixT (d := .int q.1) rfl rfl)))
        · rw [if_neg (of_decide_eq_false hb), List.append_nil]
      · rintro l ds rfl rfl
        rw [List.length_map, List.take_length]
        have h4 := valsL_len g z
        refine od_cat (by rw [List.length_map, List.length_map]; omega) ?_
        refine ⟨.dat (lgD g), ?_⟩
        rw [List.map_append]
        rfl
    · rintro l δ' rfl ⟨a, rfl⟩
      rw [List.length_map, List.take_length, hps]
      refine do_append (i := 4) (p := p) (ds := ((N.take i).map fun z => (totL y (valsL ps z), z)).map gD) rfl (by rw [List.length_map, List.length_map, List.length_take]; omega) (ev_tup (ea_cons (ev_call (ea_cons (ev_var rfl (ea_cons (ev_var rfl (ea_nil ⟨⟨valsL ps z, y, rfl, hN z (List.mem_of_getElem? hz)⟩, fun d hd => ?_⟩))))))))
      obtain ⟨ns, y', e, rfl⟩ := hd
      simp only [List.cons.injEq, D.lst.injEq, D.str.injEq, and_true] at e
      have e1 : valsL ps z = ns := by
        have key : ∀ {xs zs : List Int}, xs.map D.int = zs.map D.int → xs = zs := fun {xs} => by
          induction xs with
          | nil => intro zs h; cases zs with | nil => rfl | cons _ _ => cases h
          | cons x xs ih =>
            intro zs h
            cases zs with
            | nil => cases h
            | cons z zs =>
              obtain ⟨h1, h2⟩ := List.cons.inj (show D.int x :: xs.map D.int = D.int z :: zs.map D.int from h)
              rw [D.int.inj h1, ih h2]
        exact key e.1
      rw [← e1, ← e.2]
      refine ea_cons (ev_var rfl (ea_nil ⟨by simp, a, .dat (.str z), .dat (.lst ((valsL ps z).map .int)), ?_⟩))
      rw [List.take_succ, hz, List.map_append, List.map_append]
      rfl
  rintro l δ' rfl ⟨a, b, c, rfl⟩
  rw [show (txsD N).length = N.length from by unfold txsD; rw [List.length_map], List.take_length]
  have et : N.map (fun z => (totL y (valsL ps z), z)) = totsOf y gs := by
    rw [totsOf_words, hps, ← hNN]
    rfl
  rw [et]
  refine do_freeze (i := 4) (p := p) rfl ?_
  refine do_ret (EvN.ev (en_slL (EvN.ev (en_sorted (ev_var (d := .lst ((totsOf y gs).map gD)) rfl ⟨_, .inl rfl, sortOk_g _, ?_⟩)))))
  rw [sortD_g]
  refine eo_none (eo_some (ev_var rfl ⟨n, rfl, _, rfl, .lst (gs.map lgD), n, y, rfl, ?_⟩))
  rw [cut_nat hn]
  show _ = D.lst ((firstG y ((gs.map lgD).map grOf) n).map gD)
  rw [grs_of]
  unfold firstG
  rw [List.map_take]
/-! ### which parts are groups -/
def hasK (acc : List (Key × D)) (k : Key) : Bool := acc.any fun kv => decide (kv.1 = k)
theorem hasK_val {acc : List (Key × D)} {k : Key} (h : hasK acc k = false) : valD acc k = none := by
  unfold valD hasK at *
  have : acc.find? (fun kv => decide (kv.1 = k)) = none := List.find?_eq_none.mpr fun x hx => by
    have := List.any_eq_false.mp h x hx
    simpa using this
  rw [this]
  rfl
theorem nmD_uniq {zs : List D} (h : (zs.map nmOf).Nodup) : (nmD zs).length = zs.length := by
  have key : ∀ (zs : List D) (acc : List (Key × D)), (∀ z ∈ zs, hasK acc (.inr (nmOf z)) = false) → (zs.map nmOf).Nodup → (zs.foldl (fun acc z => putD acc (.inr (nmOf z)) (.bl true)) acc).length = acc.length + zs.length := by
    intro zs
    induction zs with
    | nil => intro acc _ _; rfl
    | cons y zs ih =>
      intro acc h1 h2
      rw [List.map_cons, List.nodup_cons] at h2
      have e : putD acc (.inr (nmOf y)) (.bl true) = acc ++ [(.inr (nmOf y), .bl true)] := putD_new (hasK_val (h1 y (by simp)))
      rw [List.foldl_cons, e, ih _ (fun z hz => ?_) h2.2]
      · simp only [List.length_append, List.length_cons, List.length_nil]
        omega
      · have h3 : hasK acc (.inr (nmOf z)) = false := h1 z (List.mem_cons_of_mem _ hz)
        have n : nmOf y ≠ nmOf z := fun e => h2.1 (by rw [e]; exact List.mem_map_of_mem hz)
        unfold hasK at h3 ⊢
        rw [List.any_append, h3]
        simp only [List.any_cons, List.any_nil, Bool.or_false, Bool.false_or, decide_eq_false_iff_not]
        exact fun e => n (Sum.inr.inj e)
  have := key zs [] (fun _ _ => rfl) h
  simpa [nmD] using this
theorem isPair_gD {p : Int × Str} (h : isName (.str p.2) = true) : isPair (gD p) = true := by
  show (isWh (.int p.1) && isName (.str p.2)) = true
  rw [h]
  rfl
theorem areG_lg {g : Gr} (nd : (g.map Prod.snd).Nodup) (nm : ∀ p ∈ g, isName (.str p.2) = true) : areG (lgD g) = true := by
  show ((g.map gD).all isPair && decide ((nmD (g.map gD)).length = (g.map gD).length)) = true
  rw [nmD_uniq (by rw [List.map_map]; exact nd), decide_eq_true rfl, Bool.and_true, List.all_eq_true]
  intro x hx
  obtain ⟨p, hp, rfl⟩ := List.mem_map.mp hx
  exact isPair_gD (nm p hp)
/-! data that may stand as a part -/
structure WOk (z : D) : Prop where
  pl : plD z = true
  tx : ∀ ys, itemsOf z = some ys → ys.length ≤ 1000 ∧ ∀ x ∈ ys, txOk x
theorem name_len {z : Str} (h : isName (.str z) = true) : 1 ≤ z.length ∧ z.length ≤ 8 := by
  simp only [isName, Bool.and_eq_true, decide_eq_true_eq] at h
  exact h.1
theorem txOk_gD {p : Int × Str} (h : isName (.str p.2) = true) : txOk (gD p) := fun a z e => by
  have h2 : D.str p.2 = D.str z := by
    have := D.tup.inj e
    simp only [List.cons.injEq, and_true] at this
    exact this.2
  cases h2
  have := name_len h
  omega
theorem plL_all {xs : List D} (h : ∀ x ∈ xs, plD x = true) : plL xs = true := by
  induction xs with
  | nil => rfl
  | cons x xs ih =>
    show (plD x && plL xs) = true
    rw [h x (by simp), ih fun y hy => h y (List.mem_cons_of_mem _ hy)]
    rfl
theorem plD_lst {xs : List D} (hl : xs.length ≤ 1000) (h : ∀ x ∈ xs, plD x = true) : plD (.lst xs) = true := by
  simp only [plD, Bool.and_eq_true, decide_eq_true_eq]
  exact ⟨by omega, plL_all h⟩
theorem plD_gD (p : Int × Str) : plD (gD p) = true := by
  simp [gD, plD, plL]
theorem wok_lst {xs : List D} (hl : xs.length ≤ 1000) (h : ∀ x ∈ xs, plD x = true ∧ txOk x) : WOk (.lst xs) :=
  ⟨plD_lst hl fun x hx => (h x hx).1, fun ys e => by
    obtain rfl := Option.some.inj e
    exact ⟨hl, fun x hx => (h x hx).2⟩⟩
theorem wok_lg {g : Gr} (hl : g.length ≤ 7) (nm : ∀ p ∈ g, isName (.str p.2) = true) : WOk (lgD g) :=
  wok_lst (by rw [List.length_map]; omega) fun x hx => by
    obtain ⟨p, hp, rfl⟩ := List.mem_map.mp hx
    exact ⟨plD_gD p, txOk_gD (nm p hp)⟩
theorem smP_of {zs : List D} (hl : zs.length ≤ 10) (h : ∀ z ∈ zs, WOk z) : SmP (.lst zs) zs := ⟨.inl rfl, hl, fun z hz => (h z hz).pl, fun z hz => (h z hz).tx⟩
theorem smP_gs {gs : List Gr} (g : GpOk gs) : SmP (.lst (gs.map lgD)) (gs.map lgD) :=
  smP_of (by rw [List.length_map]; have := g.n1; omega) fun z hz => by
    obtain ⟨x, hx, rfl⟩ := List.mem_map.mp hz
    exact wok_lg (g.ln x hx) (g.nm x hx)
theorem gAt_gs {gs : List Gr} (g : GpOk gs) : gAt (gs.map lgD) = none := List.findIdx?_eq_none_iff.mpr fun z hz => by
  obtain ⟨x, hx, rfl⟩ := List.mem_map.mp hz
  rw [areG_lg (g.nd x hx) (g.nm x hx)]
  rfl
end Pf

set_option maxHeartbeats 16000000
namespace Pf
open PySem L2 PfL RZ
local macro_rules | `(tactic| walk_at "ev") => `(tactic| first
  | ((with_reducible refine' ev_var ?h ?_); (case h => rfl))
  | with_reducible refine ev_int ?_
  | with_reducible refine ev_bl ?_
  | with_reducible refine ev_str ?_
  | with_reducible refine ev_non ?_
  | with_reducible refine ev_ty ?_
  | with_reducible refine ev_op ?_
  | with_reducible refine ev_un ?_
  | with_reducible refine ev_chain ?_
  | with_reducible refine ev_if ?_
  | with_reducible refine ev_and ?_
  | with_reducible refine ev_or ?_
  | with_reducible refine ev_not ?_
  | with_reducible refine ev_lst ?_
  | with_reducible refine ev_tup ?_
  | with_reducible refine ea_nil ?_
  | with_reducible refine ea_cons ?_
  | with_reducible refine ev_cb ?_
  | with_reducible refine et_test ?_
  | with_reducible refine et_B ?_
  | with_reducible refine et_and ?_
  | with_reducible refine et_or ?_
  | with_reducible refine et_not ?_
  | with_reducible refine et_yes ?_
  | with_reducible refine eo_none ?_
  | with_reducible refine eo_some ?_
  | with_reducible refine ev_slS ?_
  | with_reducible refine od_int ?_
  | with_reducible refine od_bl ?_
  | with_reducible refine od_eq_int ?_
  | with_reducible refine od_ne_int ?_
  | with_reducible refine od_eq_bl ?_
  | with_reducible refine od_ne_bl ?_
  | with_reducible refine od_eq_str ?_
  | with_reducible refine od_ne_str ?_
  | with_reducible refine od_leS ?_
  | with_reducible refine ud_isN ?_
  | with_reducible refine ud_notN ?_
  | with_reducible refine do_seq ?_
  | with_reducible refine do_set ?_
  | with_reducible refine do_ret ?_
  | with_reducible refine do_retN ?_
  | with_reducible refine do_if ?_
  | with_reducible refine do_next ?_
  | with_reducible refine tg_name ?_
  | with_reducible refine tgs_nil ?_
  | with_reducible refine tgs_cons ?_)

theorem cd_tupL {K : PySem.W.Frag} {P : D → Prop} {xs : List D} (p : P (.tup xs)) : CallD K (rTupleK K) [.lst xs] P := fun M H vs Q al r q => by
  cases r with
  | cons r1 r2 =>
    cases r2
    cases r1 with
    | lst h1 h2 => exact ⟨_, _, rfl, .inl ⟨SqL.of (hd_of h1).2, fun l hl => q _ _ _ p (same_new hl) (.tup (SqT.of (hd_new al hl)) (h2.mono (same_hdM (same_new hl))))⟩⟩
theorem pydL_gs (g : Gr) : pydL (g.map gD) = g.map fun p => PyData.tuple [.int p.1, .str p.2] := by
  rw [pydL_map, List.map_map]
  exact List.map_congr_left fun p _ => pyd_g p
def tgD (g : Gr) : D := .tup (g.map gD)
theorem tgs_of (gs : List Gr) : (gs.map tgD).map grOf = gs := by
  rw [List.map_map]
  conv => rhs; rw [← List.map_id gs]
  exact List.map_congr_left fun g _ => unG_map g
theorem wok_tg {g : Gr} (hl : g.length ≤ 7) (nm : ∀ p ∈ g, isName (.str p.2) = true) : WOk (tgD g) := by
  have h := wok_lg hl nm
  have hp : plD (lgD g) = true := h.pl
  refine ⟨?_, fun ys e => h.tx ys e⟩
  simp only [lgD, plD] at hp
  simp only [tgD, plD]
  exact hp
theorem areG_tg {g : Gr} (nd : (g.map Prod.snd).Nodup) (nm : ∀ p ∈ g, isName (.str p.2) = true) : areG (tgD g) = true := areG_lg nd nm
theorem smP_lt {v : D} {zs : List D} (h : SmP (.lst zs) zs) (hv : v = .lst zs ∨ v = .tup zs) : SmP v zs := ⟨hv, h.n, h.pl, h.tx⟩
theorem smP_ts {gs : List Gr} (g : GpOk gs) : SmP (.lst (gs.map tgD)) (gs.map tgD) :=
  smP_of (by rw [List.length_map]; have := g.n1; omega) fun z hz => by
    obtain ⟨x, hx, rfl⟩ := List.mem_map.mp hz
    exact wok_tg (g.ln x hx) (g.nm x hx)
theorem gAt_ts {gs : List Gr} (g : GpOk gs) : gAt (gs.map tgD) = none := List.findIdx?_eq_none_iff.mpr fun z hz => by
  obtain ⟨x, hx, rfl⟩ := List.mem_map.mp hz
  rw [areG_tg (g.nd x hx) (g.nm x hx)]
  rfl
theorem cut_ok {gs : List Gr} (g : GpOk gs) (k : Int) : GpOk (gs.map (cutG k)) := by
  have sub : ∀ g0 : Gr, ∀ q ∈ cutG k g0, q ∈ g0 := fun g0 q hq => take_sub hq
  refine ⟨by rw [List.length_map]; exact g.n0, by rw [List.length_map]; exact g.n1, fun x hx => ?_, fun x hx => ?_, fun x hx q hq => ?_⟩
  all_goals obtain ⟨g0, hg0, rfl⟩ := List.mem_map.mp hx
  · have := g.ln g0 hg0
    unfold cutG
    rw [List.length_take, sortG_len]
    omega
  · exact cutG_nd (g.nd g0 hg0)
  · exact g.nm g0 hg0 q (sub g0 q hq)
theorem at_zero {α : Type} {x : α} {xs : List α} : atI (x :: xs) 0 = some x := atI_nat' (xs := x :: xs) (i := 0) (by decide) (by simp)
theorem like_g2 {g : Gr} (hl : (g.length : Int) ≤ 9) : plD (.lst (g.map gD)) = true ∧ dep (.lst (g.map gD)) ≤ 2 := by
  refine ⟨plD_lst (by rw [List.length_map]; omega) fun x hx => ?_, ?_⟩
  · obtain ⟨p, _, rfl⟩ := List.mem_map.mp hx
    exact plD_gD p
  · have : ∀ ps : Gr, depL (ps.map gD) ≤ 1 := fun ps => by
      induction ps with
      | nil => simp [depL]
      | cons p ps ih =>
        simp only [List.map_cons, depL, gD, dep]
        omega
    have := this g
    simp only [dep]
    omega
theorem strOk_name {z : Str} (h : isName (.str z) = true) : PyData.strOk z = true := by
  simp only [isName, Bool.and_eq_true, decide_eq_true_eq] at h
  unfold PyData.strOk
  rw [← Array.all_toList, List.all_eq_true]
  intro c hc
  have := List.all_eq_true.mp h.2 c hc
  unfold lower at this
  simp only [Bool.and_eq_true, decide_eq_true_eq] at this
  exact decide_eq_true (by omega)
theorem shaped_gss {gs : List Gr} (nm : ∀ g ∈ gs, ∀ p ∈ g, isName (.str p.2) = true) : plainD (.lst (gs.map lgD)) = true ∧ SeqAt.shaped (pyd (.lst (gs.map lgD))) = true := by
  have e1 : ∀ g : Gr, pyd (lgD g) = .list (g.map fun p => PyData.tuple [.int p.1, .str p.2]) := fun g => by
    simp only [lgD, pyd, pydL_gs]
  have hi : ∀ ps : Gr, (∀ p ∈ ps, isName (.str p.2) = true) → PyData.canLayAll0 (ps.map fun p => PyData.tuple [.int p.1, .str p.2]) = true := fun ps => by
    induction ps with
    | nil => intro _; simp [PyData.canLayAll0]
    | cons p ps ih => intro h; simp [PyData.canLayAll0, PyData.canLay0, ih fun q hq => h q (List.mem_cons_of_mem _ hq), strOk_name (h p (by simp))]
  have hd : ∀ ps : Gr, PyData.depthAll (ps.map fun p => PyData.tuple [.int p.1, .str p.2]) ≤ 1 := fun ps => by
    induction ps with
    | nil => simp [PyData.depthAll]
    | cons p ps ih =>
      simp only [List.map_cons, PyData.depthAll, PyData.depth]
      omega
  have e2 : pyd (.lst (gs.map lgD)) = .list (gs.map fun g => PyData.list (g.map fun p => PyData.tuple [.int p.1, .str p.2])) := by
    simp only [pyd, pydL_map, List.map_map]
    congr 1
    exact List.map_congr_left fun g _ => e1 g
  refine ⟨?_, ?_⟩
  · have : ∀ gs : List Gr, plainL (gs.map lgD) = true := fun gs => by
      induction gs with
      | nil => simp [plainL]
      | cons g gs ih =>
        simp only [List.map_cons, plainL, lgD, plainD, (sortOk_g g).1, Bool.true_and]
        exact ih
    simp only [plainD]
    exact this gs
  · have h1 : ∀ gs : List Gr, (∀ g ∈ gs, ∀ p ∈ g, isName (.str p.2) = true) → PyData.canLayAll0 (gs.map fun g => PyData.list (g.map fun p => PyData.tuple [.int p.1, .str p.2])) = true := fun gs => by
      induction gs with
      | nil => intro _; simp [PyData.canLayAll0]
      | cons g gs ih => intro h; simp [PyData.canLayAll0, PyData.canLay0, ih fun q hq => h q (List.mem_cons_of_mem _ hq), hi g (h g (by simp))]
    have h2 : ∀ gs : List Gr, PyData.depthAll (gs.map fun g => PyData.list (g.map fun p => PyData.tuple [.int p.1, .str p.2])) ≤ 2 := fun gs => by
      induction gs with
      | nil => simp [PyData.depthAll]
      | cons g gs ih =>
        have := hd g
        simp only [List.map_cons, PyData.depthAll, PyData.depth]
        omega
    unfold SeqAt.shaped
    have := h2 gs
    rw [e2]
    simp only [PyData.canLay0, PyData.depth, h1 gs nm, Bool.true_and, decide_eq_true_eq]
    exact decide_eq_true (by omega)
theorem ok_law {P : Program} {w : World} {K : PySem.W.Frag} {mg : Str → Option Value} {base : Heap} (T : Txt K mg) : FnOk P w K mg base CX0 40 T.f_law T.fd_law ["_law_script"] (spLaw K) := by
  refine T.F_law.ok sc_law (fun vs H Q E h => ?_) (fun cdv A outer s H vs Q E hr h => ?_)
  · obtain ⟨a, ns, rfl, _⟩ := h
    rfl
  refine ⟨_, (pss_cons (ps_set (i := 1) sc_law.nd rfl (Or.inl rfl) (pe_call (ok_open T) (hr.mono (by decide)) rfl T.g_open T.k_open T.bd_open .nil pass0 (pa_cons (pv 0) pa_nil)))
    (pss_cons (ps_for PassesOwn.never rfl (pi_range1 (by rfl) T.b_range (pa_cons pe_int pa_nil)) (pg_name (i := 2) sc_law.nd rfl (Or.inl rfl))
      (pss_cons (ps_set (i := 3) sc_law.nd rfl (Or.inl rfl) (pe_call (ok_group_parts T) (hr.mono (by decide)) rfl T.g_group_parts T.k_group_parts T.bd_group_parts .nil pass0 (pa_cons (pv 1) pa_nil)))
      (pss_cons (ps_asg (pe_tup (pa_cons (pe_op op_add pe_int (pe_call (ok_draw T) (hr.mono (by decide)) rfl T.g_draw T.k_draw T.bd_draw .nil pass0 (pa_cons (pv 1) (pa_cons pe_int pa_nil)))) (pa_cons (pe_op op_add pe_int (pe_call (ok_draw T) (hr.mono (by decide)) rfl T.g_draw T.k_draw T.bd_draw .nil pass0 (pa_cons (pv 1) (pa_cons pe_int pa_nil)))) pa_nil))) (pgTup K (n := 2) rfl (pgs_cons (pg_name (i := 4) sc_law.nd rfl (Or.inr rfl)) (pgs_cons (pg_name (i := 5) sc_law.nd rfl (Or.inl rfl)) pgs_nil))))
      (pss_cons (ps_setLc (i := 6) (own := [("_law_part", 12)]) rfl sc_law.nd rfl rfl (sw_true rfl rfl rfl (by decide +kernel)) (piL K (pv 3)) (blkOk_by (N := N_law) (sc := defScope s_law) (by decide +kernel)) (fun _ _ _ _ _ => (pg_name (i := 12) sc_law.nd rfl (Or.inl rfl))) (fun _ _ _ _ _ => pts_nil) (fun _ _ _ _ _ => (pe_callTy (callList K) (by rfl) T.b_list (by decide +kernel) (pa_cons (pv 12) pa_nil))))
      (pss_one (ps_for PassesOwn.never rfl (piL K (pe_lst (pa_cons pe_str (pa_cons pe_str (pa_cons pe_str pa_nil))))) (pg_name (i := 7) sc_law.nd rfl (Or.inl rfl))
        (pss_cons (ps_set (i := 8) sc_law.nd rfl (Or.inl rfl) (pe_lst (pa_cons (pe_call (ok_true_first T) (hr.mono (by decide)) rfl T.g_true_first T.k_true_first T.bd_true_first .nil pass0 (pa_cons (pv 6) (pa_cons (pv 5) (pa_cons (pv 7) pa_nil)))) (pa_cons (pe_call (ok_told_first T) (hr.mono (by decide)) rfl T.g_told_first T.k_told_first T.bd_told_first .nil pass0 (pa_cons (pv 6) (pa_cons (pv 4) (pa_cons (pv 5) (pa_cons (pv 7) pa_nil))))) (pa_cons (pe_callK0 (ok_true_first T) (hr.mono (by decide)) rfl T.g_true_first T.k_true_first (kb_true_first_way_size_parts T) pass0 (pk_cons (pv 7) (pk_cons (pv 5) (pk_cons (pe_callTy (callTuple K) (by rfl) T.b_tuple (by decide +kernel) (pa_cons (pv 6) pa_nil)) pk_nil)))) (pa_cons (pe_callK0 (ok_told_first T) (hr.mono (by decide)) rfl T.g_told_first T.k_told_first (kb_told_first_way_size_ask_parts T) pass0 (pk_cons (pv 7) (pk_cons (pv 5) (pk_cons (pv 4) (pk_cons (pv 6) pk_nil))))) pa_nil))))))
        (pss_cons (ps_setLc (i := 9) (own := [("_law_part", 12)]) rfl sc_law.nd rfl rfl (sw_true rfl rfl rfl (by decide +kernel)) (piL K (pv 3)) (blkOk_by (N := N_law) (sc := defScope s_law) (by decide +kernel)) (fun _ _ _ _ _ => (pg_name (i := 12) sc_law.nd rfl (Or.inl rfl))) (fun _ _ _ _ _ => pts_nil) (fun _ _ _ _ _ => (pe_slice (slL K) (pe_callB (cr_sortA K hr.units) (by rfl) T.b_sorted (by decide +kernel) (pa_cons (pv 12) pa_nil)) po_none (po_some (pv 4)))))
        (pss_cons (ps_set (i := 10) sc_law.nd rfl (Or.inl rfl) (pe_lst (pa_cons (pe_call (ok_firsts T) (hr.mono (by decide)) rfl T.g_firsts T.k_firsts T.bd_firsts .nil pass0 (pa_cons (pv 3) (pa_cons (pv 5) (pa_cons (pv 7) pa_nil)))) (pa_cons (pe_call (ok_firsts T) (hr.mono (by decide)) rfl T.g_firsts T.k_firsts T.bd_firsts .nil pass0 (pa_cons (pv 9) (pa_cons (pv 5) (pa_cons (pv 7) pa_nil)))) pa_nil))))
        (pss_cons (ps_if (PW.pt (pw_or (pt_not (pt_val (pe_call (ok_like T 4) (hr.mono (by decide)) rfl T.g_like T.k_like T.bd_like .nil pass0 (pa_cons (pv 8) (pa_cons (pe_op op_cat (pv 10) (pv 10)) pa_nil))))) (pw_or1 (pt_cmpR ((opNeD K hr.units)) (pv 6) (pv 3) (nomark _))))) (pss_one (ps_ret pe_bl)) pss_nil)
        (pss_cons (ps_set (i := 11) sc_law.nd rfl (Or.inl rfl) (pe_callTy (callTuple K) (by rfl) T.b_tuple (by decide +kernel) (pa_cons (pe_lc (own := [("_law_part", 12)]) rfl sc_law.nd (piL K (pv 6)) (blkOk_by (N := N_law) (sc := defScope s_law) (by decide +kernel)) (fun _ _ _ _ _ => (pg_name (i := 12) sc_law.nd rfl (Or.inl rfl))) (fun _ _ _ _ _ => pts_nil) (fun _ _ _ _ _ => (pe_callTy (callTuple K) (by rfl) T.b_tuple (by decide +kernel) (pa_cons (pv 12) pa_nil)))) pa_nil)))
        (pss_cons (ps_if (pt_not (pt_val (pe_call (ok_like T 4) (hr.mono (by decide)) rfl T.g_like T.k_like T.bd_like .nil pass0 (pa_cons (pe_lst (pa_cons (pe_call (ok_true_first T) (hr.mono (by decide)) rfl T.g_true_first T.k_true_first T.bd_true_first .nil pass0 (pa_cons (pv 11) (pa_cons (pv 5) (pa_cons (pv 7) pa_nil)))) (pa_cons (pe_call (ok_told_first T) (hr.mono (by decide)) rfl T.g_told_first T.k_told_first T.bd_told_first .nil pass0 (pa_cons (pv 11) (pa_cons (pv 4) (pa_cons (pv 5) (pa_cons (pv 7) pa_nil))))) pa_nil))) (pa_cons (pv 10) pa_nil))))) (pss_one (ps_ret pe_bl)) pss_nil)
        (pss_cons (ps_expr (pe_bm0 PySem.F.plainAttrs_list PySem.F.slot_list_clear PySem.F.type_list_clear (mt_clear) (pe_ix (ixL K) (pv 8) pe_int (fun _ _ => rfl))))
        (pss_one (ps_if (pt_not (pt_val (pe_call (ok_like T 4) (hr.mono (by decide)) rfl T.g_like T.k_like T.bd_like .nil pass0 (pa_cons (pe_call (ok_true_first T) (hr.mono (by decide)) rfl T.g_true_first T.k_true_first T.bd_true_first .nil pass0 (pa_cons (pv 6) (pa_cons (pv 5) (pa_cons (pv 7) pa_nil)))) (pa_cons (pe_ix (ixL K) (pv 10) pe_int (fun _ _ => rfl)) pa_nil))))) (pss_one (ps_ret pe_bl)) pss_nil)))))))))))))))
    (pss_one (ps_ret (pe_call (ok_like T 4) (hr.mono (by decide)) rfl T.g_like T.k_like T.bd_like .nil pass0 (pa_cons (pe_glob (v := .ref T.a_WAYS) rfl T.g_WAYS rfl) (pa_cons (pe_tup (pa_cons pe_str (pa_cons pe_str (pa_cons pe_str pa_nil)))) pa_nil))))))), ?_⟩
  refine lawIn h (by decide) fun b c H1 M0 E => ?_
  refine do_seq (do_for (js := [2]) (PX := fun l => l = upto 0 6) (it_range1 (ea_cons (ev_int (ea_nil ⟨6, rfl, by decide, by decide, rfl⟩)))) (fun _ _ δ => δ = slotsL N_law) (fun _ _ => rfl) ?_ ?_)
  rotate_left
  · rintro l δ rfl rfl
    refine do_ret (ev_like (ea_cons (ev_gtup (zs := ways) T.sq_WAYS (ea_cons (ev_tup (ea_cons (ev_str (ea_cons (ev_str (ea_cons (ev_str (ea_nil ⟨by simp, ea_nil ⟨_, _, rfl, by decide +kernel, by decide +kernel, by decide +kernel, ?_⟩⟩))))))))))))
    have e : likeD (.tup (txsD ways)) (.tup [.str "least", .str "greatest", .str "sum"]) = true := by decide +kernel
    rw [e]
  rintro l i x δ rfl hi rfl
  refine tg_name ?_
  refine do_wk [2, 3, 4, 5, 6, 7, 8, 9, 10, 11] ?_
  refine do_seq (do_set (ev_callB rfl rfl (ea_nil ⟨rfl, fun d hd => ?_⟩)))
  obtain ⟨gs, rfl, gok⟩ := hd
  have n0 := gok.n0
  have n1 := gok.n1
  refine do_seq (do_asg (js := [4, 5]) (ev_tup (ea_cons (ev_op (ev_int (ev_draw rfl rfl (ea_cons (ev_int (ea_nil ⟨9, rfl, by decide, by decide, fun r r0 r1 => od_int ?_⟩)))))))))
  have hk1 : 1 ≤ 1 + r := by omega
  have hk9 : 1 + r ≤ 9 := by omega
  generalize 1 + r = k at hk1 hk9 ⊢
  refine ea_cons (ev_op (ev_int (ev_draw rfl rfl (ea_cons (ev_int (ea_nil ⟨9, rfl, by decide, by decide, fun s s0 s1 => od_int ?_⟩))))))
  have hn1 : 1 ≤ 1 + s := by omega
  have hn9 : 1 + s ≤ 9 := by omega
  generalize 1 + s = n at hn1 hn9 ⊢
  refine ea_nil ⟨by simp, tg_tup rfl (tgs_cons (js := [4]) (ks := [5]) (tg_name (tgs_cons (js := [5]) (ks := []) (tg_name (tgs_nil ?_)))))⟩
  have gl : (gs.map lgD).length = gs.length := List.length_map _
  -- handed
  refine do_seq (do_set (EvN.ev ?_))
  refine en_lc (js := [12]) (PX := fun l => l = gs.map lgD) (it_list (ev_var rfl ⟨_, rfl, rfl⟩)) (fun l e => by rw [e]; omega) (by decide) (fun l i acc => acc = (gs.take i).map lgD) (fun l e => rfl) ?_ ?_
  · rintro l i d acc rfl hi rfl
    obtain ⟨g, hg, rfl⟩ := lgs_get hi
    refine tg_name (et_yes ⟨fun _ => ?_, fun h => nomatch h⟩)
    refine EvN.ev (en_listOf (ev_var (d := lgD g) rfl ⟨g.map gD, .inl rfl, ?_⟩))
    rw [List.take_succ, hg, List.map_append]
    rfl
  rintro l ds rfl rfl
  rw [gl, List.take_length]
  show Do _ _ [.un, .bag, .dat x, .dat (.lst (gs.map lgD)), .dat (.int k), .dat (.int n), .dat (.lst (gs.map lgD)), .un, .un, .un, .un, .un, .un] _
  have hP := smP_gs gok
  have gN := gAt_gs gok
  have hQ := smP_ts gok
  have gM := gAt_ts gok
  have cok := cut_ok gok k
  refine do_for (js := [7]) (PX := fun l => l = [.str "least", .str "greatest", .str "sum"]) (it_list (ev_lst (ea_cons (ev_str (ea_cons (ev_str (ea_cons (ev_str (ea_nil ⟨by simp, _, rfl, rfl⟩))))))))) (fun _ _ δ => δ = [.un, .bag, .dat x, .dat (.lst (gs.map lgD)), .dat (.int k), .dat (.int n), .dat (.lst (gs.map lgD)), .un, .un, .un, .un, .un, .un]) (fun _ _ => rfl) ?_ ?_
  rotate_left
  · rintro l δ rfl rfl
    exact rfl
  rintro l j wy δ rfl hj rfl
  obtain ⟨y, rfl, hy⟩ : ∃ y : Str, wy = .str y ∧ inTx ways (.str y) = true := by
    have := List.mem_of_getElem? hj
    simp only [List.mem_cons, List.not_mem_nil, or_false] at this
    rcases this with rfl | rfl | rfl
    · exact ⟨_, rfl, by decide +kernel⟩
    · exact ⟨_, rfl, by decide +kernel⟩
    · exact ⟨_, rfl, by decide +kernel⟩
  clear hj
  refine tg_name ?_
  refine do_wk [7, 8, 9, 10, 11] ?_
  generalize hA : firstG y gs n = A
  generalize hB : firstG y (gs.map (cutG k)) n = B
  have lA := firstG_len (way := y) (gs := gs) (n := n) (by omega)
  rw [hA] at lA
  have lB := firstG_len (way := y) (gs := gs.map (cutG k)) (n := n) (by omega)
  rw [hB] at lB
  have kA := like_g2 (g := A) (by omega)
  have kB := like_g2 (g := B) (by omega)
  have tA : ∀ {v : D} {zs : List D} {es : List D}, itemsOf v = some zs → zs.map grOf = gs → poFn [v, .int n, .str y] es → es = A.map gD := fun {v zs es} hi hz ⟨v', n', y', e, h⟩ => by
    simp only [List.cons.injEq, D.int.injEq, D.str.injEq, and_true] at e
    obtain ⟨rfl, rfl, rfl⟩ := e
    rw [h, hi]
    show (firstG y (zs.map grOf) n).map gD = _
    rw [hz, hA]
  have tB : ∀ {v : D} {zs : List D} {es : List D}, itemsOf v = some zs → zs.map grOf = gs → poOn [v, .int k, .int n, .str y] es → es = B.map gD := fun {v zs es} hi hz ⟨v', k', n', y', e, h⟩ => by
    simp only [List.cons.injEq, D.int.injEq, D.str.injEq, and_true] at e
    obtain ⟨rfl, rfl, rfl, rfl⟩ := e
    rw [h, hi]
    show (firstG y ((zs.map grOf).map (cutG k)) n).map gD = _
    rw [hz, hB]
  -- found
  refine do_oll rfl (ean_cons (en_call (ea_cons (ev_var rfl (ea_cons (ev_var rfl (ea_cons (ev_var rfl (ea_nil ⟨⟨_, _, n, y, rfl, hP, gN, ⟨hn1, hn9⟩, hy⟩, fun d hd => ?_⟩)))))))))
  obtain rfl := tA rfl (grs_of gs) hd
  refine ean_cons (en_call (ea_cons (ev_var rfl (ea_cons (ev_var rfl (ea_cons (ev_var rfl (ea_cons (ev_var rfl (ea_nil ⟨⟨_, _, k, n, y, rfl, hP, gN, ⟨hk1, hk9⟩, ⟨hn1, hn9⟩, hy⟩, fun d hd => ?_⟩))))))))))
  obtain rfl := tB rfl (grs_of gs) hd
  refine ean_cons (en_callK (krkb_true_first_way_size_parts K) (ea_nil (ea_cons (ev_var rfl (ea_cons (ev_var rfl (ea_cons (ev_cb (ea_cons (ev_var (d := .lst (gs.map lgD)) rfl (ea_nil (cd_tupL (ea_nil ⟨⟨.tup (gs.map lgD), _, n, y, rfl, smP_lt hP (.inr rfl), gN, ⟨hn1, hn9⟩, hy⟩, fun d hd => ?_⟩)))))))))))))
  obtain rfl := tA (v := .tup (gs.map lgD)) rfl (grs_of gs) hd
  refine ean_cons (en_callK (krkb_told_first_way_size_ask_parts K) (ea_nil (ea_cons (ev_var rfl (ea_cons (ev_var rfl (ea_cons (ev_var rfl (ea_cons (ev_var rfl (ea_nil ⟨⟨.lst (gs.map lgD), _, k, n, y, rfl, hP, gN, ⟨hk1, hk9⟩, ⟨hn1, hn9⟩, hy⟩, fun d hd => ?_⟩)))))))))))
  obtain rfl := tB (v := .lst (gs.map lgD)) rfl (grs_of gs) hd
  clear hd
  refine ean_nil ⟨by simp, fun M2 H2 p qs g hq => ?_⟩
  obtain ⟨q0, q1, q2, q3, rfl⟩ : ∃ q0 q1 q2 q3, qs = [(q0, A.map gD), (q1, B.map gD), (q2, A.map gD), (q3, B.map gD)] := by
    match qs, hq with
    | [(a0, b0), (a1, b1), (a2, b2), (a3, b3)], h =>
      simp only [List.map_cons, List.map_nil, List.cons.injEq, and_true] at h
      obtain ⟨rfl, rfl, rfl, rfl⟩ := h
      exact ⟨_, _, _, _, rfl⟩
  show Do2 _ _ _ _ [.un, .bag, .dat x, .dat (.lst (gs.map lgD)), .dat (.int k), .dat (.int n), .dat (.lst (gs.map lgD)), .dat (.str y), .oll p [(q0, A.map gD), (q1, B.map gD), (q2, A.map gD), (q3, B.map gD)], .un, .un, .un, .un] _
  -- cut
  refine d2_seq g (do_set (EvN.ev ?_))
  refine en_lc (js := [12]) (PX := fun l => l = gs.map lgD) (it_list (ev_var rfl ⟨_, rfl, rfl⟩)) (fun l e => by rw [e]; omega) (by decide) (fun l i acc => acc = ((gs.take i).map (cutG k)).map lgD) (fun l e => rfl) ?_ ?_
  · rintro l i d acc rfl hi rfl
    obtain ⟨g0, hg, rfl⟩ := lgs_get hi
    refine tg_name (et_yes ⟨fun _ => ?_, fun h => nomatch h⟩)
    refine EvN.ev (en_slL (EvN.ev (en_sorted (ev_var (d := lgD g0) rfl ⟨g0.map gD, .inl rfl, sortOk_g _, ?_⟩))))
    rw [sortD_g]
    refine eo_none (eo_some (ev_var (d := .int k) rfl ⟨k, rfl, _, rfl, ?_⟩))
    rw [cut_nat (by omega), List.take_succ, hg, List.map_append, List.map_append, ← List.map_take]
    rfl
  rintro l ds rfl rfl
  rw [gl, List.take_length]
  show Do2 _ _ _ _ [.un, .bag, .dat x, .dat (.lst (gs.map lgD)), .dat (.int k), .dat (.int n), .dat (.lst (gs.map lgD)), .dat (.str y), .oll p [(q0, A.map gD), (q1, B.map gD), (q2, A.map gD), (q3, B.map gD)], .dat (.lst ((gs.map (cutG k)).map lgD)), .un, .un, .un] _
  -- due
  have tF : ∀ {hs : List Gr} {d : D}, poFt [.lst (hs.map lgD), .int n, .str y] d → d = .lst ((firstG y hs n).map gD) := fun {hs d} ⟨v', n', y', e, h⟩ => by
    simp only [List.cons.injEq, D.int.injEq, D.str.injEq, and_true] at e
    obtain ⟨rfl, rfl, rfl⟩ := e
    rw [h]
    show D.lst ((firstG y ((hs.map lgD).map grOf) n).map gD) = _
    rw [grs_of]
  refine d2_seq g (do_set (ev_lst (ea_cons (ev_call (ea_cons (ev_var rfl (ea_cons (ev_var rfl (ea_cons (ev_var rfl (ea_nil ⟨⟨gs, n, y, rfl, gok, by omega⟩, fun d hd => ?_⟩)))))))))))
  obtain rfl := tF hd
  refine ea_cons (ev_call (ea_cons (ev_var rfl (ea_cons (ev_var rfl (ea_cons (ev_var rfl (ea_nil ⟨⟨gs.map (cutG k), n, y, rfl, cok, by omega⟩, fun d hd => ?_⟩))))))))
  obtain rfl := tF hd
  clear hd
  refine ea_nil ⟨by simp, ?_⟩
  rw [hA, hB]
  show Do2 _ _ _ _ [.un, .bag, .dat x, .dat (.lst (gs.map lgD)), .dat (.int k), .dat (.int n), .dat (.lst (gs.map lgD)), .dat (.str y), .oll p [(q0, A.map gD), (q1, B.map gD), (q2, A.map gD), (q3, B.map gD)], .dat (.lst ((gs.map (cutG k)).map lgD)), .dat (.lst [.lst (A.map gD), .lst (B.map gD)]), .un, .un] _
  have p4 : plD (.lst [.lst (A.map gD), .lst (B.map gD), .lst (A.map gD), .lst (B.map gD)]) = true := by
    simp only [plD, plL] at kA kB ⊢
    simp only [kA.1, kB.1, Bool.and_true, List.length_cons, List.length_nil]
    rfl
  have d4 : dep (.lst [.lst (A.map gD), .lst (B.map gD), .lst (A.map gD), .lst (B.map gD)]) ≤ 4 := by
    have h1 := kA.2
    have h2 := kB.2
    simp only [dep, depL] at h1 h2 ⊢
    omega
  have p2 : plD (.lst [.lst (A.map gD), .lst (B.map gD)]) = true := by
    simp only [plD, plL] at kA kB ⊢
    simp only [kA.1, kB.1, Bool.and_true, List.length_cons, List.length_nil]
    rfl
  have d2 : dep (.lst [.lst (A.map gD), .lst (B.map gD)]) ≤ 4 := by
    have h1 := kA.2
    have h2 := kB.2
    simp only [dep, depL] at h1 h2 ⊢
    omega
  obtain ⟨pp, sp⟩ := shaped_gss (gs := gs) gok.nm
  refine d2_seq g (do_if (et_or (et_not (et_test (ev_lend (i := 8) g rfl rfl (ev_like (ea_cons (ev_var (d := .lst [.lst (A.map gD), .lst (B.map gD), .lst (A.map gD), .lst (B.map gD)]) rfl (ea_cons (ev_op (ev_var (d := .lst [.lst (A.map gD), .lst (B.map gD)]) rfl (ev_var (d := .lst [.lst (A.map gD), .lst (B.map gD)]) rfl (od_cat (by simp) (ea_nil ⟨_, _, rfl, p4, p4, d4, _, rfl, _, rfl, ?_⟩))))))))))))))
  erw [likeD_self _ p4]
  refine ⟨fun _ => ?_, fun h => nomatch h⟩
  refine et_B (ev_op (ev_var (d := .lst (gs.map lgD)) rfl (ev_var (d := .lst (gs.map lgD)) rfl (od_neD pp pp sp sp ⟨_, rfl, ?_⟩))))
  rw [SeqAt.eqv_refl_plain _ (plain_pyd _ pp)]
  refine ⟨(fun h => nomatch h), fun _ => do_next ?_⟩
  -- as tuples
  refine d2_seq g (do_set (ev_cb (ea_cons (EvN.ev ?_))))
  refine en_lc (js := [12]) (PX := fun l => l = gs.map lgD) (it_list (ev_var (d := .lst (gs.map lgD)) rfl ⟨_, rfl, rfl⟩)) (fun l e => by rw [e]; omega) (by decide) (fun l i acc => acc = (gs.take i).map tgD) (fun l e => rfl) ?_ ?_
  · rintro l i d acc rfl hi rfl
    obtain ⟨g0, hg, rfl⟩ := lgs_get hi
    refine tg_name (et_yes ⟨fun _ => ?_, fun h => nomatch h⟩)
    refine ev_cb (ea_cons (ev_var (d := .lst (g0.map gD)) rfl (ea_nil (cd_tupL ?_))))
    rw [List.take_succ, hg, List.map_append]
    rfl
  rintro l ds rfl rfl
  rw [gl, List.take_length]
  refine ea_nil (cd_tupL ?_)
  show Do2 _ _ _ _ [.un, .bag, .dat x, .dat (.lst (gs.map lgD)), .dat (.int k), .dat (.int n), .dat (.lst (gs.map lgD)), .dat (.str y), .oll p [(q0, A.map gD), (q1, B.map gD), (q2, A.map gD), (q3, B.map gD)], .dat (.lst ((gs.map (cutG k)).map lgD)), .dat (.lst [.lst (A.map gD), .lst (B.map gD)]), .dat (.tup (gs.map tgD)), .un] _
  refine d2_seq g (do_if (et_not (et_test (ev_like (ea_cons (ev_lst (ea_cons (EvN.ev (en_call (ea_cons (ev_var rfl (ea_cons (ev_var rfl (ea_cons (ev_var rfl (ea_nil ⟨⟨.tup (gs.map tgD), _, n, y, rfl, smP_lt hQ (.inr rfl), gM, ⟨hn1, hn9⟩, hy⟩, fun d hd => ?_⟩))))))))))))))))
  obtain rfl := tA (v := .tup (gs.map tgD)) rfl (tgs_of gs) hd
  refine ea_cons (EvN.ev (en_call (ea_cons (ev_var rfl (ea_cons (ev_var rfl (ea_cons (ev_var rfl (ea_cons (ev_var rfl (ea_nil ⟨⟨.tup (gs.map tgD), _, k, n, y, rfl, smP_lt hQ (.inr rfl), gM, ⟨hk1, hk9⟩, ⟨hn1, hn9⟩, hy⟩, fun d hd => ?_⟩)))))))))))
  obtain rfl := tB (v := .tup (gs.map tgD)) rfl (tgs_of gs) hd
  clear hd
  refine ea_nil ⟨by simp, ea_cons (ev_var rfl (ea_nil ⟨_, _, rfl, p2, p2, d2, _, rfl, ?_⟩))⟩
  rw [likeD_self _ p2]
  refine ⟨(fun h => nomatch h), fun _ => do_next ?_⟩
  -- one is cleared
  refine d2_clear (i := 8) (q := q0) (es := A.map gD) g rfl rfl ?_
  show Do _ _ [.un, .bag, .dat x, .dat (.lst (gs.map lgD)), .dat (.int k), .dat (.int n), .dat (.lst (gs.map lgD)), .dat (.str y), .un, .dat (.lst ((gs.map (cutG k)).map lgD)), .dat (.lst [.lst (A.map gD), .lst (B.map gD)]), .dat (.tup (gs.map tgD)), .un] _
  refine do_if (et_not (et_test (ev_like (ea_cons (EvN.ev (en_call (ea_cons (ev_var rfl (ea_cons (ev_var rfl (ea_cons (ev_var rfl (ea_nil ⟨⟨.lst (gs.map lgD), _, n, y, rfl, hP, gN, ⟨hn1, hn9⟩, hy⟩, fun d hd => ?_⟩)))))))))))))
  obtain rfl := tA (v := .lst (gs.map lgD)) rfl (grs_of gs) hd
  refine ea_cons (ev_op (ev_var (d := .lst [.lst (A.map gD), .lst (B.map gD)]) rfl (ev_int (od_ixL (d := .lst (A.map gD)) at_zero (ea_nil ⟨_, _, rfl, kA.1, kA.1, by have := kA.2; omega, _, rfl, ?_⟩)))))
  rw [likeD_self _ kA.1]
  exact ⟨(fun h => nomatch h), fun _ => do_next rfl⟩
theorem all_mk {l : PySem.W.OpenLaw} {w : World} {K : PySem.W.Frag} {h : Heap} {mg : Str → Option Value} {fa : Addr} (X : K.In h) (G : h.Ns mainGlobals mg) (hfa : mg "law" = some (.ref fa))
    {t__MOST_SIZE : Tok}
    {a_WAYS : Addr} {ao_WAYS : Option Addr} {as_WAYS : Array (Option Value)} {an_WAYS : Nat} {twWAYS_0 twWAYS_1 twWAYS_2 : Tok}
    {c_Reader : Addr}
    {u_Reader_MOST_ASK : Tok} {fn1 : Addr} {od1 an1 : Option Addr} {sl1 : Array (Option Value)} {oc1 kV1 dc1 pm1 cd1 ct1 : Value}
    {fn2 : Addr} {od2 an2 : Option Addr} {sl2 : Array (Option Value)} {oc2 kV2 dc2 pm2 cd2 ct2 : Value}
    {fn3 : Addr} {od3 an3 : Option Addr} {sl3 : Array (Option Value)} {oc3 kV3 dc3 pm3 cd3 ct3 : Value}
    {fn4 : Addr} {od4 an4 : Option Addr} {sl4 : Array (Option Value)} {oc4 kV4 dc4 pm4 cd4 ct4 : Value}
    {fn5 : Addr} {od5 an5 : Option Addr} {sl5 : Array (Option Value)} {oc5 kV5 dc5 pm5 cd5 ct5 : Value}
    {fn6 : Addr} {od6 an6 : Option Addr} {sl6 : Array (Option Value)} {oc6 kV6 dc6 pm6 cd6 ct6 : Value}
    {fn7 : Addr} {od7 an7 : Option Addr} {sl7 : Array (Option Value)} {oc7 kV7 dc7 pm7 cd7 ct7 : Value}
    {fn8 : Addr} {od8 an8 : Option Addr} {sl8 : Array (Option Value)} {oc8 kV8 dc8 pm8 cd8 ct8 : Value}
    {fn9 : Addr} {od9 an9 : Option Addr} {sl9 : Array (Option Value)} {oc9 kV9 dc9 pm9 cd9 ct9 : Value}
    {fn10 : Addr} {od10 an10 : Option Addr} {sl10 : Array (Option Value)} {oc10 kV10 dc10 pm10 cd10 ct10 : Value}
    {fn11 : Addr} {od11 an11 : Option Addr} {sl11 : Array (Option Value)} {oc11 kV11 dc11 pm11 cd11 ct11 : Value}
    {fn12 : Addr} {od12 an12 : Option Addr} {sl12 : Array (Option Value)} {oc12 kV12 dc12 pm12 cd12 ct12 : Value}
    {fn13 : Addr} {od13 an13 : Option Addr} {sl13 : Array (Option Value)} {oc13 kV13 dc13 pm13 cd13 ct13 : Value}
    {fn14 : Addr} {od14 an14 : Option Addr} {sl14 : Array (Option Value)} {oc14 kV14 dc14 pm14 cd14 ct14 : Value}
    {fn15 : Addr} {od15 an15 : Option Addr} {sl15 : Array (Option Value)} {oc15 kV15 dc15 pm15 cd15 ct15 : Value}
    {fn16 : Addr} {od16 an16 : Option Addr} {sl16 : Array (Option Value)} {oc16 kV16 dc16 pm16 cd16 ct16 : Value}
    {fn17 : Addr} {od17 an17 : Option Addr} {sl17 : Array (Option Value)} {oc17 kV17 dc17 pm17 cd17 ct17 : Value}
    {fn18 : Addr} {od18 an18 : Option Addr} {sl18 : Array (Option Value)} {oc18 kV18 dc18 pm18 cd18 ct18 : Value}
    {fn19 : Addr} {od19 an19 : Option Addr} {sl19 : Array (Option Value)} {oc19 kV19 dc19 pm19 cd19 ct19 : Value}
    {fn20 : Addr} {od20 an20 : Option Addr} {sl20 : Array (Option Value)} {oc20 kV20 dc20 pm20 cd20 ct20 : Value}
    {fn21 : Addr} {od21 an21 : Option Addr} {sl21 : Array (Option Value)} {oc21 kV21 dc21 pm21 cd21 ct21 : Value}
    {fn22 : Addr} {od22 an22 : Option Addr} {sl22 : Array (Option Value)} {oc22 kV22 dc22 pm22 cd22 ct22 : Value}
    {fn23 : Addr} {od23 an23 : Option Addr} {sl23 : Array (Option Value)} {oc23 kV23 dc23 pm23 cd23 ct23 : Value}
    (y_Reader : PySem.W.nsIn K mainGlobals "Reader" = some (some (.ref c_Reader)))
    (a1 : PySem.W.nsIn K mainGlobals "is_name" = some (some (.ref fn1)))
    (l1 : K.lookup fn1 = some ⟨oc1, od1, .func (PySem.W.fnOf "is_name" "is_name" (defArgs s_is_name) (defBody s_is_name) (defScope s_is_name) .none kV1 dc1 pm1 an1 cd1 ct1), sl1⟩)
    (e1 : PySem.W.codeIn K cd1 "is_name" = true)
    (k1 : PySem.W.keepIn K (.ref fn1) = true)
    (a2 : PySem.W.nsIn K mainGlobals "is_whole" = some (some (.ref fn2)))
    (l2 : K.lookup fn2 = some ⟨oc2, od2, .func (PySem.W.fnOf "is_whole" "is_whole" (defArgs s_is_whole) (defBody s_is_whole) (defScope s_is_whole) .none kV2 dc2 pm2 an2 cd2 ct2), sl2⟩)
    (e2 : PySem.W.codeIn K cd2 "is_whole" = true)
    (k2 : PySem.W.keepIn K (.ref fn2) = true)
    (a3 : PySem.W.nsIn K mainGlobals "is_number" = some (some (.ref fn3)))
    (l3 : K.lookup fn3 = some ⟨oc3, od3, .func (PySem.W.fnOf "is_number" "is_number" (defArgs s_is_number) (defBody s_is_number) (defScope s_is_number) .none kV3 dc3 pm3 an3 cd3 ct3), sl3⟩)
    (e3 : PySem.W.codeIn K cd3 "is_number" = true)
    (k3 : PySem.W.keepIn K (.ref fn3) = true)
    (a4 : PySem.W.nsIn K mainGlobals "check_size" = some (some (.ref fn4)))
    (l4 : K.lookup fn4 = some ⟨oc4, od4, .func (PySem.W.fnOf "check_size" "check_size" (defArgs s_check_size) (defBody s_check_size) (defScope s_check_size) .none kV4 dc4 pm4 an4 cd4 ct4), sl4⟩)
    (e4 : PySem.W.codeIn K cd4 "check_size" = true)
    (k4 : PySem.W.keepIn K (.ref fn4) = true)
    (a5 : PySem.W.nsIn K mainGlobals "_is_pair" = some (some (.ref fn5)))
    (l5 : K.lookup fn5 = some ⟨oc5, od5, .func (PySem.W.fnOf "_is_pair" "_is_pair" (defArgs s__is_pair) (defBody s__is_pair) (defScope s__is_pair) .none kV5 dc5 pm5 an5 cd5 ct5), sl5⟩)
    (e5 : PySem.W.codeIn K cd5 "_is_pair" = true)
    (k5 : PySem.W.keepIn K (.ref fn5) = true)
    (a6 : PySem.W.nsIn K mainGlobals "_are_groups" = some (some (.ref fn6)))
    (l6 : K.lookup fn6 = some ⟨oc6, od6, .func (PySem.W.fnOf "_are_groups" "_are_groups" (defArgs s__are_groups) (defBody s__are_groups) (defScope s__are_groups) .none kV6 dc6 pm6 an6 cd6 ct6), sl6⟩)
    (e6 : PySem.W.codeIn K cd6 "_are_groups" = true)
    (k6 : PySem.W.keepIn K (.ref fn6) = true)
    (a7 : PySem.W.nsIn K mainGlobals "_check_groups" = some (some (.ref fn7)))
    (l7 : K.lookup fn7 = some ⟨oc7, od7, .func (PySem.W.fnOf "_check_groups" "_check_groups" (defArgs s__check_groups) (defBody s__check_groups) (defScope s__check_groups) .none kV7 dc7 pm7 an7 cd7 ct7), sl7⟩)
    (e7 : PySem.W.codeIn K cd7 "_check_groups" = true)
    (k7 : PySem.W.keepIn K (.ref fn7) = true)
    (a8 : PySem.W.nsIn K mainGlobals "_check_ask" = some (some (.ref fn8)))
    (l8 : K.lookup fn8 = some ⟨oc8, od8, .func (PySem.W.fnOf "_check_ask" "_check_ask" (defArgs s__check_ask) (defBody s__check_ask) (defScope s__check_ask) .none kV8 dc8 pm8 an8 cd8 ct8), sl8⟩)
    (e8 : PySem.W.codeIn K cd8 "_check_ask" = true)
    (k8 : PySem.W.keepIn K (.ref fn8) = true)
    (a9 : PySem.W.nsIn K mainGlobals "_check_way" = some (some (.ref fn9)))
    (l9 : K.lookup fn9 = some ⟨oc9, od9, .func (PySem.W.fnOf "_check_way" "_check_way" (defArgs s__check_way) (defBody s__check_way) (defScope s__check_way) .none kV9 dc9 pm9 an9 cd9 ct9), sl9⟩)
    (e9 : PySem.W.codeIn K cd9 "_check_way" = true)
    (k9 : PySem.W.keepIn K (.ref fn9) = true)
    (a10 : PySem.W.nsIn K mainGlobals "_joined" = some (some (.ref fn10)))
    (l10 : K.lookup fn10 = some ⟨oc10, od10, .func (PySem.W.fnOf "_joined" "_joined" (defArgs s__joined) (defBody s__joined) (defScope s__joined) .none kV10 dc10 pm10 an10 cd10 ct10), sl10⟩)
    (e10 : PySem.W.codeIn K cd10 "_joined" = true)
    (k10 : PySem.W.keepIn K (.ref fn10) = true)
    (a11 : PySem.W.nsIn K mainGlobals "_first_totals" = some (some (.ref fn11)))
    (l11 : K.lookup fn11 = some ⟨oc11, od11, .func (PySem.W.fnOf "_first_totals" "_first_totals" (defArgs s__first_totals) (defBody s__first_totals) (defScope s__first_totals) .none kV11 dc11 pm11 an11 cd11 ct11), sl11⟩)
    (e11 : PySem.W.codeIn K cd11 "_first_totals" = true)
    (k11 : PySem.W.keepIn K (.ref fn11) = true)
    (a12 : PySem.W.nsIn K mainGlobals "true_first" = some (some (.ref fn12)))
    (l12 : K.lookup fn12 = some ⟨oc12, od12, .func (PySem.W.fnOf "true_first" "true_first" (defArgs s_true_first) (defBody s_true_first) (defScope s_true_first) .none kV12 dc12 pm12 an12 cd12 ct12), sl12⟩)
    (e12 : PySem.W.codeIn K cd12 "true_first" = true)
    (k12 : PySem.W.keepIn K (.ref fn12) = true)
    (a13 : PySem.W.nsIn K mainGlobals "told_first" = some (some (.ref fn13)))
    (l13 : K.lookup fn13 = some ⟨oc13, od13, .func (PySem.W.fnOf "told_first" "told_first" (defArgs s_told_first) (defBody s_told_first) (defScope s_told_first) .none kV13 dc13 pm13 an13 cd13 ct13), sl13⟩)
    (e13 : PySem.W.codeIn K cd13 "told_first" = true)
    (k13 : PySem.W.keepIn K (.ref fn13) = true)
    (a14 : PySem.W.nsIn K mainGlobals "_law_open" = some (some (.ref fn14)))
    (l14 : K.lookup fn14 = some ⟨oc14, od14, .func (PySem.W.fnOf "_law_open" "_law_open" (defArgs s_open) (defBody s_open) (defScope s_open) .none kV14 dc14 pm14 an14 cd14 ct14), sl14⟩)
    (e14 : PySem.W.codeIn K cd14 "_law_open" = true)
    (k14 : PySem.W.keepIn K (.ref fn14) = true)
    (a15 : PySem.W.nsIn K mainGlobals "_law_draw" = some (some (.ref fn15)))
    (l15 : K.lookup fn15 = some ⟨oc15, od15, .func (PySem.W.fnOf "_law_draw" "_law_draw" (defArgs s_draw) (defBody s_draw) (defScope s_draw) .none kV15 dc15 pm15 an15 cd15 ct15), sl15⟩)
    (e15 : PySem.W.codeIn K cd15 "_law_draw" = true)
    (k15 : PySem.W.keepIn K (.ref fn15) = true)
    (a16 : PySem.W.nsIn K mainGlobals "_law_of" = some (some (.ref fn16)))
    (l16 : K.lookup fn16 = some ⟨oc16, od16, .func (PySem.W.fnOf "_law_of" "_law_of" (defArgs s_of) (defBody s_of) (defScope s_of) .none kV16 dc16 pm16 an16 cd16 ct16), sl16⟩)
    (e16 : PySem.W.codeIn K cd16 "_law_of" = true)
    (k16 : PySem.W.keepIn K (.ref fn16) = true)
    (a17 : PySem.W.nsIn K mainGlobals "_law_mixed" = some (some (.ref fn17)))
    (l17 : K.lookup fn17 = some ⟨oc17, od17, .func (PySem.W.fnOf "_law_mixed" "_law_mixed" (defArgs s_mixed) (defBody s_mixed) (defScope s_mixed) .none kV17 dc17 pm17 an17 cd17 ct17), sl17⟩)
    (e17 : PySem.W.codeIn K cd17 "_law_mixed" = true)
    (k17 : PySem.W.keepIn K (.ref fn17) = true)
    (a18 : PySem.W.nsIn K mainGlobals "_law_like" = some (some (.ref fn18)))
    (l18 : K.lookup fn18 = some ⟨oc18, od18, .func (PySem.W.fnOf "_law_like" "_law_like" (defArgs s_like) (defBody s_like) (defScope s_like) .none kV18 dc18 pm18 an18 cd18 ct18), sl18⟩)
    (e18 : PySem.W.codeIn K cd18 "_law_like" = true)
    (k18 : PySem.W.keepIn K (.ref fn18) = true)
    (a19 : PySem.W.nsIn K mainGlobals "_law_names" = some (some (.ref fn19)))
    (l19 : K.lookup fn19 = some ⟨oc19, od19, .func (PySem.W.fnOf "_law_names" "_law_names" (defArgs s_names) (defBody s_names) (defScope s_names) .none kV19 dc19 pm19 an19 cd19 ct19), sl19⟩)
    (e19 : PySem.W.codeIn K cd19 "_law_names" = true)
    (k19 : PySem.W.keepIn K (.ref fn19) = true)
    (a20 : PySem.W.nsIn K mainGlobals "_law_group_parts" = some (some (.ref fn20)))
    (l20 : K.lookup fn20 = some ⟨oc20, od20, .func (PySem.W.fnOf "_law_group_parts" "_law_group_parts" (defArgs s_group_parts) (defBody s_group_parts) (defScope s_group_parts) .none kV20 dc20 pm20 an20 cd20 ct20), sl20⟩)
    (e20 : PySem.W.codeIn K cd20 "_law_group_parts" = true)
    (k20 : PySem.W.keepIn K (.ref fn20) = true)
    (a21 : PySem.W.nsIn K mainGlobals "_law_total" = some (some (.ref fn21)))
    (l21 : K.lookup fn21 = some ⟨oc21, od21, .func (PySem.W.fnOf "_law_total" "_law_total" (defArgs s_total) (defBody s_total) (defScope s_total) .none kV21 dc21 pm21 an21 cd21 ct21), sl21⟩)
    (e21 : PySem.W.codeIn K cd21 "_law_total" = true)
    (k21 : PySem.W.keepIn K (.ref fn21) = true)
    (a22 : PySem.W.nsIn K mainGlobals "_law_firsts" = some (some (.ref fn22)))
    (l22 : K.lookup fn22 = some ⟨oc22, od22, .func (PySem.W.fnOf "_law_firsts" "_law_firsts" (defArgs s_firsts) (defBody s_firsts) (defScope s_firsts) .none kV22 dc22 pm22 an22 cd22 ct22), sl22⟩)
    (e22 : PySem.W.codeIn K cd22 "_law_firsts" = true)
    (k22 : PySem.W.keepIn K (.ref fn22) = true)
    (a23 : PySem.W.nsIn K mainGlobals "law" = some (some (.ref fn23)))
    (l23 : K.lookup fn23 = some ⟨oc23, od23, .func (PySem.W.fnOf "law" "law" (defArgs s_law) (defBody s_law) (defScope s_law) .none kV23 dc23 pm23 an23 cd23 ct23), sl23⟩)
    (e23 : PySem.W.codeIn K cd23 "law" = true)
    (k23 : PySem.W.keepIn K (.ref fn23) = true)
    (z1 : PySem.W.nsIn K mainGlobals "all" = some none)
    (z2 : PySem.W.nsIn K mainGlobals "bool" = some none)
    (z3 : PySem.W.nsIn K mainGlobals "enumerate" = some none)
    (z4 : PySem.W.nsIn K mainGlobals "int" = some none)
    (z5 : PySem.W.nsIn K mainGlobals "isinstance" = some none)
    (z6 : PySem.W.nsIn K mainGlobals "len" = some none)
    (z7 : PySem.W.nsIn K mainGlobals "list" = some none)
    (z8 : PySem.W.nsIn K mainGlobals "max" = some none)
    (z9 : PySem.W.nsIn K mainGlobals "min" = some none)
    (z10 : PySem.W.nsIn K mainGlobals "range" = some none)
    (z11 : PySem.W.nsIn K mainGlobals "sorted" = some none)
    (z12 : PySem.W.nsIn K mainGlobals "str" = some none)
    (z13 : PySem.W.nsIn K mainGlobals "sum" = some none)
    (z14 : PySem.W.nsIn K mainGlobals "tuple" = some none)
    (z15 : PySem.W.nsIn K mainGlobals "zip" = some none)
    (x1 : PySem.W.nsIn K mainGlobals "_MOST_SIZE" = some (some (.int 9 t__MOST_SIZE)))
    (x2 : PySem.W.nsIn K mainGlobals "WAYS" = some (some (.ref a_WAYS)))
    (x3 : K.lookup a_WAYS = some ⟨.type "tuple", ao_WAYS, .seq #[.str "least" twWAYS_0, .str "greatest" twWAYS_1, .str "sum" twWAYS_2] an_WAYS, as_WAYS⟩)
    (x4 : PySem.W.plainGet K c_Reader Str.empty = true)
    (x5 : PySem.W.hasDictIn K c_Reader = true)
    (x6 : PySem.W.plainOver K c_Reader = true)
    (x7 : PySem.W.findIn K (.ref c_Reader) "__setattr__" = some (some (.builtin "object.__setattr__")))
    (x8 : PySem.W.findIn K (.ref c_Reader) "__class__" = some (some (.builtin "object.__class__")))
    (x9 : PySem.W.specialIn K (.builtin "object.__class__") "__get__" = some (some (.builtin "getset_descriptor.__get__")))
    (x10 : PySem.W.takesIn K (.builtin "object.__class__") = some true)
    (x11 : PySem.W.mroIn K c_Reader (.type "object") = some true)
    (x12 : PySem.W.readsIn K c_Reader (.type "type") = true)
    (x13 : PySem.W.specialIn K (.ref c_Reader) "__getattribute__" = some (some (.builtin "type.__getattribute__")))
    (x14 : PySem.W.findCls K (.ref c_Reader) (.type "type") "MOST_ASK" = some (.val (.int 9 u_Reader_MOST_ASK)))
    (x15 : PySem.W.isClsIn K c_Reader = true)
    (x16 : PySem.W.typeIn K (.ref c_Reader) = some (.type "type")) :
    ∃ fd : FuncData, (∀ (s : Shared) (v : Value), BindsTo s fd ⟨[v], []⟩ [("_law_script", v)]) ∧ ∀ base : Heap, K.In base → base.Ns mainGlobals mg → FnOk l.prog w K mg base CX0 40 fa fd ["_law_script"] (spLaw K) := by
  have e := hfa.symm.trans (PySem.W.mg_of X G a23)
  cases e
  let T : Txt K mg :=
    { f_is_name := fn1, fd_is_name := (PySem.W.fnOf "is_name" "is_name" (defArgs s_is_name) (defBody s_is_name) (defScope s_is_name) .none kV1 dc1 pm1 an1 cd1 ct1), F_is_name := (fun_mk (st := s_is_name) l1 e1 k1), k_is_name := k1,
      g_is_name := PySem.W.mg_of X G a1,
      bd_is_name := ((fun_mk (st := s_is_name) l1 e1 k1).binds (ps := ["value"]) fun _ _ _ _ _ _ us hl => match us, hl with | [_], _ => rfl),
      f_is_whole := fn2, fd_is_whole := (PySem.W.fnOf "is_whole" "is_whole" (defArgs s_is_whole) (defBody s_is_whole) (defScope s_is_whole) .none kV2 dc2 pm2 an2 cd2 ct2), F_is_whole := (fun_mk (st := s_is_whole) l2 e2 k2), k_is_whole := k2,
      g_is_whole := PySem.W.mg_of X G a2,
      bd_is_whole := ((fun_mk (st := s_is_whole) l2 e2 k2).binds (ps := ["value"]) fun _ _ _ _ _ _ us hl => match us, hl with | [_], _ => rfl),
      f_is_number := fn3, fd_is_number := (PySem.W.fnOf "is_number" "is_number" (defArgs s_is_number) (defBody s_is_number) (defScope s_is_number) .none kV3 dc3 pm3 an3 cd3 ct3), F_is_number := (fun_mk (st := s_is_number) l3 e3 k3), k_is_number := k3,
      g_is_number := PySem.W.mg_of X G a3,
      bd_is_number := ((fun_mk (st := s_is_number) l3 e3 k3).binds (ps := ["value", "least", "most"]) fun _ _ _ _ _ _ us hl => match us, hl with | [_, _, _], _ => rfl),
      f_check_size := fn4, fd_check_size := (PySem.W.fnOf "check_size" "check_size" (defArgs s_check_size) (defBody s_check_size) (defScope s_check_size) .none kV4 dc4 pm4 an4 cd4 ct4), F_check_size := (fun_mk (st := s_check_size) l4 e4 k4), k_check_size := k4,
      g_check_size := PySem.W.mg_of X G a4,
      bd_check_size := ((fun_mk (st := s_check_size) l4 e4 k4).binds (ps := ["size"]) fun _ _ _ _ _ _ us hl => match us, hl with | [_], _ => rfl),
      f__is_pair := fn5, fd__is_pair := (PySem.W.fnOf "_is_pair" "_is_pair" (defArgs s__is_pair) (defBody s__is_pair) (defScope s__is_pair) .none kV5 dc5 pm5 an5 cd5 ct5), F__is_pair := (fun_mk (st := s__is_pair) l5 e5 k5), k__is_pair := k5,
      g__is_pair := PySem.W.mg_of X G a5,
      bd__is_pair := ((fun_mk (st := s__is_pair) l5 e5 k5).binds (ps := ["value"]) fun _ _ _ _ _ _ us hl => match us, hl with | [_], _ => rfl),
      f__are_groups := fn6, fd__are_groups := (PySem.W.fnOf "_are_groups" "_are_groups" (defArgs s__are_groups) (defBody s__are_groups) (defScope s__are_groups) .none kV6 dc6 pm6 an6 cd6 ct6), F__are_groups := (fun_mk (st := s__are_groups) l6 e6 k6), k__are_groups := k6,
      g__are_groups := PySem.W.mg_of X G a6,
      bd__are_groups := ((fun_mk (st := s__are_groups) l6 e6 k6).binds (ps := ["value"]) fun _ _ _ _ _ _ us hl => match us, hl with | [_], _ => rfl),
      f__check_groups := fn7, fd__check_groups := (PySem.W.fnOf "_check_groups" "_check_groups" (defArgs s__check_groups) (defBody s__check_groups) (defScope s__check_groups) .none kV7 dc7 pm7 an7 cd7 ct7), F__check_groups := (fun_mk (st := s__check_groups) l7 e7 k7), k__check_groups := k7,
      g__check_groups := PySem.W.mg_of X G a7,
      bd__check_groups := ((fun_mk (st := s__check_groups) l7 e7 k7).binds (ps := ["parts"]) fun _ _ _ _ _ _ us hl => match us, hl with | [_], _ => rfl),
      f__check_ask := fn8, fd__check_ask := (PySem.W.fnOf "_check_ask" "_check_ask" (defArgs s__check_ask) (defBody s__check_ask) (defScope s__check_ask) .none kV8 dc8 pm8 an8 cd8 ct8), F__check_ask := (fun_mk (st := s__check_ask) l8 e8 k8), k__check_ask := k8,
      g__check_ask := PySem.W.mg_of X G a8,
      bd__check_ask := ((fun_mk (st := s__check_ask) l8 e8 k8).binds (ps := ["ask"]) fun _ _ _ _ _ _ us hl => match us, hl with | [_], _ => rfl),
      f__check_way := fn9, fd__check_way := (PySem.W.fnOf "_check_way" "_check_way" (defArgs s__check_way) (defBody s__check_way) (defScope s__check_way) .none kV9 dc9 pm9 an9 cd9 ct9), F__check_way := (fun_mk (st := s__check_way) l9 e9 k9), k__check_way := k9,
      g__check_way := PySem.W.mg_of X G a9,
      bd__check_way := ((fun_mk (st := s__check_way) l9 e9 k9).binds (ps := ["way"]) fun _ _ _ _ _ _ us hl => match us, hl with | [_], _ => rfl),
      f__joined := fn10, fd__joined := (PySem.W.fnOf "_joined" "_joined" (defArgs s__joined) (defBody s__joined) (defScope s__joined) .none kV10 dc10 pm10 an10 cd10 ct10), F__joined := (fun_mk (st := s__joined) l10 e10 k10), k__joined := k10,
      g__joined := PySem.W.mg_of X G a10,
      bd__joined := ((fun_mk (st := s__joined) l10 e10 k10).binds (ps := ["one", "other", "way"]) fun _ _ _ _ _ _ us hl => match us, hl with | [_, _, _], _ => rfl),
      f__first_totals := fn11, fd__first_totals := (PySem.W.fnOf "_first_totals" "_first_totals" (defArgs s__first_totals) (defBody s__first_totals) (defScope s__first_totals) .none kV11 dc11 pm11 an11 cd11 ct11), F__first_totals := (fun_mk (st := s__first_totals) l11 e11 k11), k__first_totals := k11,
      g__first_totals := PySem.W.mg_of X G a11,
      bd__first_totals := ((fun_mk (st := s__first_totals) l11 e11 k11).binds (ps := ["parts", "size", "way"]) fun _ _ _ _ _ _ us hl => match us, hl with | [_, _, _], _ => rfl),
      f_true_first := fn12, fd_true_first := (PySem.W.fnOf "true_first" "true_first" (defArgs s_true_first) (defBody s_true_first) (defScope s_true_first) .none kV12 dc12 pm12 an12 cd12 ct12), F_true_first := (fun_mk (st := s_true_first) l12 e12 k12), k_true_first := k12,
      g_true_first := PySem.W.mg_of X G a12,
      bd_true_first := ((fun_mk (st := s_true_first) l12 e12 k12).binds (ps := ["parts", "size", "way"]) fun _ _ _ _ _ _ us hl => match us, hl with | [_, _, _], _ => rfl),
      f_told_first := fn13, fd_told_first := (PySem.W.fnOf "told_first" "told_first" (defArgs s_told_first) (defBody s_told_first) (defScope s_told_first) .none kV13 dc13 pm13 an13 cd13 ct13), F_told_first := (fun_mk (st := s_told_first) l13 e13 k13), k_told_first := k13,
      g_told_first := PySem.W.mg_of X G a13,
      bd_told_first := ((fun_mk (st := s_told_first) l13 e13 k13).binds (ps := ["parts", "ask", "size", "way"]) fun _ _ _ _ _ _ us hl => match us, hl with | [_, _, _, _], _ => rfl),
      f_open := fn14, fd_open := (PySem.W.fnOf "_law_open" "_law_open" (defArgs s_open) (defBody s_open) (defScope s_open) .none kV14 dc14 pm14 an14 cd14 ct14), F_open := (fun_mk (st := s_open) l14 e14 k14), k_open := k14,
      g_open := PySem.W.mg_of X G a14,
      bd_open := ((fun_mk (st := s_open) l14 e14 k14).binds (ps := ["_law_script"]) fun _ _ _ _ _ _ us hl => match us, hl with | [_], _ => rfl),
      f_draw := fn15, fd_draw := (PySem.W.fnOf "_law_draw" "_law_draw" (defArgs s_draw) (defBody s_draw) (defScope s_draw) .none kV15 dc15 pm15 an15 cd15 ct15), F_draw := (fun_mk (st := s_draw) l15 e15 k15), k_draw := k15,
      g_draw := PySem.W.mg_of X G a15,
      bd_draw := ((fun_mk (st := s_draw) l15 e15 k15).binds (ps := ["_law_bag", "_law_many"]) fun _ _ _ _ _ _ us hl => match us, hl with | [_, _], _ => rfl),
      f_of := fn16, fd_of := (PySem.W.fnOf "_law_of" "_law_of" (defArgs s_of) (defBody s_of) (defScope s_of) .none kV16 dc16 pm16 an16 cd16 ct16), F_of := (fun_mk (st := s_of) l16 e16 k16), k_of := k16,
      g_of := PySem.W.mg_of X G a16,
      bd_of := ((fun_mk (st := s_of) l16 e16 k16).binds (ps := ["_law_bag", "_law_things"]) fun _ _ _ _ _ _ us hl => match us, hl with | [_, _], _ => rfl),
      f_mixed := fn17, fd_mixed := (PySem.W.fnOf "_law_mixed" "_law_mixed" (defArgs s_mixed) (defBody s_mixed) (defScope s_mixed) .none kV17 dc17 pm17 an17 cd17 ct17), F_mixed := (fun_mk (st := s_mixed) l17 e17 k17), k_mixed := k17,
      g_mixed := PySem.W.mg_of X G a17,
      bd_mixed := ((fun_mk (st := s_mixed) l17 e17 k17).binds (ps := ["_law_bag", "_law_things"]) fun _ _ _ _ _ _ us hl => match us, hl with | [_, _], _ => rfl),
      f_like := fn18, fd_like := (PySem.W.fnOf "_law_like" "_law_like" (defArgs s_like) (defBody s_like) (defScope s_like) .none kV18 dc18 pm18 an18 cd18 ct18), F_like := (fun_mk (st := s_like) l18 e18 k18), k_like := k18,
      g_like := PySem.W.mg_of X G a18,
      bd_like := ((fun_mk (st := s_like) l18 e18 k18).binds (ps := ["_law_found", "_law_due"]) fun _ _ _ _ _ _ us hl => match us, hl with | [_, _], _ => rfl),
      f_names := fn19, fd_names := (PySem.W.fnOf "_law_names" "_law_names" (defArgs s_names) (defBody s_names) (defScope s_names) .none kV19 dc19 pm19 an19 cd19 ct19), F_names := (fun_mk (st := s_names) l19 e19 k19), k_names := k19,
      g_names := PySem.W.mg_of X G a19,
      bd_names := ((fun_mk (st := s_names) l19 e19 k19).binds (ps := ["_law_bag", "_law_many"]) fun _ _ _ _ _ _ us hl => match us, hl with | [_, _], _ => rfl),
      f_group_parts := fn20, fd_group_parts := (PySem.W.fnOf "_law_group_parts" "_law_group_parts" (defArgs s_group_parts) (defBody s_group_parts) (defScope s_group_parts) .none kV20 dc20 pm20 an20 cd20 ct20), F_group_parts := (fun_mk (st := s_group_parts) l20 e20 k20), k_group_parts := k20,
      g_group_parts := PySem.W.mg_of X G a20,
      bd_group_parts := ((fun_mk (st := s_group_parts) l20 e20 k20).binds (ps := ["_law_bag"]) fun _ _ _ _ _ _ us hl => match us, hl with | [_], _ => rfl),
      f_total := fn21, fd_total := (PySem.W.fnOf "_law_total" "_law_total" (defArgs s_total) (defBody s_total) (defScope s_total) .none kV21 dc21 pm21 an21 cd21 ct21), F_total := (fun_mk (st := s_total) l21 e21 k21), k_total := k21,
      g_total := PySem.W.mg_of X G a21,
      bd_total := ((fun_mk (st := s_total) l21 e21 k21).binds (ps := ["_law_some", "_law_way_z"]) fun _ _ _ _ _ _ us hl => match us, hl with | [_, _], _ => rfl),
      f_firsts := fn22, fd_firsts := (PySem.W.fnOf "_law_firsts" "_law_firsts" (defArgs s_firsts) (defBody s_firsts) (defScope s_firsts) .none kV22 dc22 pm22 an22 cd22 ct22), F_firsts := (fun_mk (st := s_firsts) l22 e22 k22), k_firsts := k22,
      g_firsts := PySem.W.mg_of X G a22,
      bd_firsts := ((fun_mk (st := s_firsts) l22 e22 k22).binds (ps := ["_law_parts_z", "_law_size_z", "_law_way_z"]) fun _ _ _ _ _ _ us hl => match us, hl with | [_, _, _], _ => rfl),
      f_law := fa, fd_law := (PySem.W.fnOf "law" "law" (defArgs s_law) (defBody s_law) (defScope s_law) .none kV23 dc23 pm23 an23 cd23 ct23), F_law := (fun_mk (st := s_law) l23 e23 k23), k_law := k23,
      g_law := PySem.W.mg_of X G a23,
      bd_law := ((fun_mk (st := s_law) l23 e23 k23).binds (ps := ["_law_script"]) fun _ _ _ _ _ _ us hl => match us, hl with | [_], _ => rfl),
      b_all := PySem.W.mg_none_of X G z1,
      b_bool := PySem.W.mg_none_of X G z2,
      b_enumerate := PySem.W.mg_none_of X G z3,
      b_int := PySem.W.mg_none_of X G z4,
      b_isinstance := PySem.W.mg_none_of X G z5,
      b_len := PySem.W.mg_none_of X G z6,
      b_list := PySem.W.mg_none_of X G z7,
      b_max := PySem.W.mg_none_of X G z8,
      b_min := PySem.W.mg_none_of X G z9,
      b_range := PySem.W.mg_none_of X G z10,
      b_sorted := PySem.W.mg_none_of X G z11,
      b_str := PySem.W.mg_none_of X G z12,
      b_sum := PySem.W.mg_none_of X G z13,
      b_tuple := PySem.W.mg_none_of X G z14,
      b_zip := PySem.W.mg_none_of X G z15,
      t__MOST_SIZE := t__MOST_SIZE,
      g__MOST_SIZE := PySem.W.mg_of X G x1,
      a_WAYS := a_WAYS,
      g_WAYS := PySem.W.mg_of X G x2,
      sq_WAYS := fun H => .inr ⟨_, _, _, x3, rfl, rfl, sz_of (Nat.le_of_ble_eq_true rfl), (.cons ⟨_, rfl⟩ (.cons ⟨_, rfl⟩ (.cons ⟨_, rfl⟩ .nil)))⟩,
      c_Reader := c_Reader,
      g_Reader := PySem.W.mg_of X G y_Reader,
      cf_Reader := ⟨⟨x4, x5, x6, x7⟩, x8, x9, x10, x11⟩,
      mc_Reader := .type "type",
      cr_Reader := ⟨x12, x13⟩,
      cv_Reader_MOST_ASK := ⟨.int 9 u_Reader_MOST_ASK, x14, ⟨_, rfl⟩⟩ }
  exact ⟨T.fd_law, fun s v => .of_eq rfl, fun base _ _ => ok_law T⟩
theorem walk {l : PySem.W.OpenLaw} {q : Program} {loose : List Str} {XP : (Str → Option Value) → Heap → Prop} {YP : World → Heap → Prop} {d : DefRec} {K : Params → PySem.W.Frag} (hn : l.most = some 63) (hdf : d.params.defaults = [])
    (hY : ∀ (w : World) (h : Heap), YP w h → (K w.params).In h)
    (F : ∀ (w : World) (mg : Str → Option Value) (fa : Addr) (h : Heap), (K w.params).In h → h.Ns mainGlobals mg → mg d.name = some (.ref fa) →
      ∃ fd : FuncData, (∀ (s : Shared) (u : Value), BindsTo s fd ⟨[u], []⟩ [("_law_script", u)]) ∧ ∀ base : Heap, (K w.params).In base → base.Ns mainGlobals mg → FnOk l.prog w (K w.params) mg base CX0 40 fa fd ["_law_script"] (spLaw (K w.params))) :
    PySem.W.WalkO q loose XP YP l.row.toRowW d [] (fun f vs => PySem.call f vs) :=
  L2.walk_of (n := 63) (k := 40) (x := "_law_script") (CX := fun _ => CX0) (sp := fun w => spLaw (K w.params)) hn (by decide) hdf ⟨rfl, by decide, by decide⟩ hY F (fun _ _ a ns hl _ hS => ⟨a, ns, rfl, hS, hl, fun _ => rfl⟩) fun _ _ _ _ _ z => z
end Pf
open PySem PySem.W PyProof.Rows
set_option maxRecDepth 100000 in
set_option maxHeartbeats 0 in
theorem PySem.Challenge.cw_partfirsts_k54_groups_told_holds : PySem.Challenge.rw_partfirsts_k54_groups_told.Holds := by
  w_on; o_law; k_head; (case hw => w_witness2)
  k_fill
  refine Pf.walk (l := PySem.Challenge.rw_partfirsts_k54_groups_told) rfl rfl (fun w h Y => PySem.W.kIn_of Y) ?F
  case F =>
    intro w mg fa h KX G hmg
    refine' Pf.all_mk KX G hmg ?y_Reader ?a1 ?l1 ?e1 ?k1 ?a2 ?l2 ?e2 ?k2 ?a3 ?l3 ?e3 ?k3 ?a4 ?l4 ?e4 ?k4 ?a5 ?l5 ?e5 ?k5 ?a6 ?l6 ?e6 ?k6 ?a7 ?l7 ?e7 ?k7 ?a8 ?l8 ?e8 ?k8 ?a9 ?l9 ?e9 ?k9 ?a10 ?l10 ?e10 ?k10 ?a11 ?l11 ?e11 ?k11 ?a12 ?l12 ?e12 ?k12 ?a13 ?l13 ?e13 ?k13 ?a14 ?l14 ?e14 ?k14 ?a15 ?l15 ?e15 ?k15 ?a16 ?l16 ?e16 ?k16 ?a17 ?l17 ?e17 ?k17 ?a18 ?l18 ?e18 ?k18 ?a19 ?l19 ?e19 ?k19 ?a20 ?l20 ?e20 ?k20 ?a21 ?l21 ?e21 ?k21 ?a22 ?l22 ?e22 ?k22 ?a23 ?l23 ?e23 ?k23 ?z1 ?z2 ?z3 ?z4 ?z5 ?z6 ?z7 ?z8 ?z9 ?z10 ?z11 ?z12 ?z13 ?z14 ?z15 ?x1 ?x2 ?x3 ?x4 ?x5 ?x6 ?x7 ?x8 ?x9 ?x10 ?x11 ?x12 ?x13 ?x14 ?x15 ?x16
    (case y_Reader => k_is)
    (case a1 => k_is)
    (case l1 => k_is)
    (case e1 => k_is)
    (case k1 => k_is)
    (case a2 => k_is)
    (case l2 => k_is)
    (case e2 => k_is)
    (case k2 => k_is)
    (case a3 => k_is)
    (case l3 => k_is)
    (case e3 => k_is)
    (case k3 => k_is)
    (case a4 => k_is)
    (case l4 => k_is)
    (case e4 => k_is)
    (case k4 => k_is)
    (case a5 => k_is)
    (case l5 => k_is)
    (case e5 => k_is)
    (case k5 => k_is)
    (case a6 => k_is)
    (case l6 => k_is)
    (case e6 => k_is)
    (case k6 => k_is)
    (case a7 => k_is)
    (case l7 => k_is)
    (case e7 => k_is)
    (case k7 => k_is)
    (case a8 => k_is)
    (case l8 => k_is)
    (case e8 => k_is)
    (case k8 => k_is)
    (case a9 => k_is)
    (case l9 => k_is)
    (case e9 => k_is)
    (case k9 => k_is)
    (case a10 => k_is)
    (case l10 => k_is)
    (case e10 => k_is)
    (case k10 => k_is)
    (case a11 => k_is)
    (case l11 => k_is)
    (case e11 => k_is)
    (case k11 => k_is)
    (case a12 => k_is)
    (case l12 => k_is)
    (case e12 => k_is)
    (case k12 => k_is)
    (case a13 => k_is)
    (case l13 => k_is)
    (case e13 => k_is)
    (case k13 => k_is)
    (case a14 => k_is)
    (case l14 => k_is)
    (case e14 => k_is)
    (case k14 => k_is)
    (case a15 => k_is)
    (case l15 => k_is)
    (case e15 => k_is)
    (case k15 => k_is)
    (case a16 => k_is)
    (case l16 => k_is)
    (case e16 => k_is)
    (case k16 => k_is)
    (case a17 => k_is)
    (case l17 => k_is)
    (case e17 => k_is)
    (case k17 => k_is)
    (case a18 => k_is)
    (case l18 => k_is)
    (case e18 => k_is)
    (case k18 => k_is)
    (case a19 => k_is)
    (case l19 => k_is)
    (case e19 => k_is)
    (case k19 => k_is)
    (case a20 => k_is)
    (case l20 => k_is)
    (case e20 => k_is)
    (case k20 => k_is)
    (case a21 => k_is)
    (case l21 => k_is)
    (case e21 => k_is)
    (case k21 => k_is)
    (case a22 => k_is)
    (case l22 => k_is)
    (case e22 => k_is)
    (case k22 => k_is)
    (case a23 => k_is)
    (case l23 => k_is)
    (case e23 => k_is)
    (case k23 => k_is)
    (case z1 => k_is)
    (case z2 => k_is)
    (case z3 => k_is)
    (case z4 => k_is)
    (case z5 => k_is)
    (case z6 => k_is)
    (case z7 => k_is)
    (case z8 => k_is)
    (case z9 => k_is)
    (case z10 => k_is)
    (case z11 => k_is)
    (case z12 => k_is)
    (case z13 => k_is)
    (case z14 => k_is)
    (case z15 => k_is)
    (case x1 => k_is)
    (case x2 => k_is)
    (case x3 => k_is)
    (case x4 => k_is)
    (case x5 => k_is)
    (case x6 => k_is)
    (case x7 => k_is)
    (case x8 => k_is)
    (case x9 => k_is)
    (case x10 => k_is)
    (case x11 => k_is)
    (case x12 => k_is)
    (case x13 => k_is)
    (case x14 => k_is)
    (case x15 => k_is)
    (case x16 => k_is)
#print axioms PySem.Challenge.cw_partfirsts_k54_groups_told_holds
