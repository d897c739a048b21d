import PyProof.Rows.All
import Wide.All
import OpenK.AllK
import Wide.FinOn
import HandS.ForMost
import HandS.IsInst
import HandS.Zip
import HandS.Walk
import HandS.ExcInit
import HandS.Lambda
import KE.KDictKeyed
import KE.GoesEnum
import KE.SortData
import HandS.MakeKwOnly
import HandS.Property
import HandS.ClsMeth
import HandS.FStr
import HandS.SlotsOwn
import HandS.Style
import HandS.Conv
import HandS.TupAny
import HandS.SetFor
import HandS.Deep
import HandS.Strs
import HandS.ExcIs
import HandS.ExcField
import HandS.ExcValue
import KE.KExcIs
import HandS.WordsExc
import HandS.HotCalls
import KE.KTryMore
import HandS.EndTab
import KE.KDflt
import HandS.Nested
import HandS.EndOwn
import KE.KRevSl
import HandS.Star
import HandS.TupMul
import HandS.NoneIn
import KE.DataMinMax
import KE.DataEq
import Flt.Ops
import HandS.DictComp
import HandS.Iter
import HandS.RaiseMore
import KE.IntTextLaws
import KE.KUnpackStar
import KE.GoesEnumKw
import HandS.SortKw
import KE.LtData
import KE.KDictCopyH
import KE.KDictLaw
import PySem.Challenge.RW_partfirsts_k24_steps_of_standings
set_option Elab.async false
set_option linter.all false
set_option maxRecDepth 100000
set_option maxHeartbeats 4000000
/-! data without a heap: D; what bears it: Rep; a judgement that speaks of data alone: Ev, Do -/
namespace Pf
open PySem L2

/-- data -/
inductive D where
  | non | bl (b : Bool) | int (i : Int) | str (x : Str)
  | lst (ds : List D) | tup (ds : List D)
  | dic (kvs : List (Key × D))
  | ins (C : Addr) (fs : List (Str × D))
  | ty (n : String) | adr (a : Addr)
  | exc (C : Addr) (fs : List (Str × D))
  | fn (f : Addr) (hs : List (Addr × HO)) (ws : List V) (cs : List D)
  | dicN (w : World) (kvs : List (NestedKey × D))

/-- the heap without what is hidden -/
def hd (M : Addr → Bool) (H : Hp) : Hp := fun a => if M a = true then none else H a
theorem hd_of {M : Addr → Bool} {H : Hp} {a : Addr} {o : HO} (h : hd M H a = some o) : M a = false ∧ H a = some o := by
  unfold hd at h
  cases e : M a with
  | true => rw [e, if_pos rfl] at h; cases h
  | false => rw [e, if_neg Bool.false_ne_true] at h; exact ⟨rfl, h⟩
theorem hd_at {M : Addr → Bool} {H : Hp} {a : Addr} {o : HO} (m : M a = false) (h : H a = some o) : hd M H a = some o := by
  unfold hd
  rw [m, if_neg Bool.false_ne_true]
  exact h
theorem same_hd (M : Addr → Bool) (H : Hp) : Same (hd M H) H := fun _ _ h => (hd_of h).2
theorem same_hd_le {M N : Addr → Bool} {H : Hp} (h : ∀ a, M a = true → N a = true) : Same (hd N H) (hd M H) := fun a o e => by
  obtain ⟨h1, h2⟩ := hd_of e
  refine hd_at ?_ h2
  cases q : M a with
  | true => rw [h a q] at h1; cases h1
  | false => rfl
theorem same_tup {K : PySem.W.Frag} {H H' : Hp} {a : Addr} {xs : List V} (e : Same H H') (h : SqT K H a xs) : SqT K H' a xs := by
  rcases h with (h | ⟨o, h⟩) | h
  · exact .inl (.inl (e _ _ h))
  · exact .inl (.inr ⟨o, e _ _ h⟩)
  · exact .inr h
theorem same_new {H : Hp} {p : Addr} {o : HO} (h : H p = none) : Same H (upd H p o) := fun a u e => by
  rw [upd_ne (ne_of_none e h)]
  exact e

/-! a dict whose keys are tuples (nested), by what is true of its one object -/
abbrev NE (α : Type) := NestedKey × Addr × α
def entN (w : World) (x : NE Value) : DictEntry := ⟨x.1.hash w, .ref x.2.1, x.2.2⟩
def HDn (w : World) (a : Addr) (xs : List (NE V)) : HO := .ext fun h => xs.length ≤ sizeLine ∧ (a == sysModules) = false ∧ ∃ us : List (NE Value), Paired (fun (p : NE V) (q : NE Value) => p.1 = q.1 ∧ p.2.1 = q.2.1 ∧ RelV p.2.2 q.2.2) xs us ∧
  ∃ o es ep, h.get? a = some o ∧ o.ExactDict ∧ o.data = .dict es ep ∧ es.toList = us.map (entN w) ∧ (us.map (·.1)).Nodup
theorem HDn_code {w : World} {a : Addr} {xs : List (NE V)} {c : Addr} {q : Str} : HDn w a xs ≠ LamX.CodeO c q := fun e => by
  unfold HDn LamX.CodeO at e
  have e1 := HO.ext.inj e
  let oc : Obj := { cls := .type "code", data := .fields #[.none, .str q 0] }
  let h : Heap := { objs := Array.replicate (a + c + 1) oc }
  have g : ∀ b, b < a + c + 1 → h.get? b = some oc := fun b hb => by
    unfold Heap.get?
    have : h.objs[b]? = some oc := by simp [h, hb]
    rw [this]
  have h2 : (fun h : Heap => ∃ (oc : Obj) (vs : Array Value) (t : Tok), h.get? c = some oc ∧ oc.data = .fields vs ∧ vs[1]? = some (.str q t)) h := ⟨oc, #[.none, .str q 0], 0, g c (Nat.lt_succ_of_le (Nat.le_add_left c a)), rfl, rfl⟩
  rw [← e1] at h2
  obtain ⟨_, _, _, _, o, es, ep, h3, _, h4, _⟩ := h2
  rw [g a (Nat.lt_succ_of_le (Nat.le_add_right a c))] at h3
  cases h3
  cases h4
mutual
/-- a key as data -/
def nkD : NestedKey → D
  | .none => .non
  | .num i => .int i
  | .text x => .str x
  | .tup ks => .tup (nkDs ks)
def nkDs : List NestedKey → List D
  | [] => []
  | k :: ks => nkD k :: nkDs ks
end
mutual
inductive Rep (K : PySem.W.Frag) (H : Hp) : V → D → Prop
  | non : Rep K H .non .non
  | bl (b : Bool) : Rep K H (.bl b) (.bl b)
  | int (i : Int) : Rep K H (.int i) (.int i)
  | str (x : Str) : Rep K H (.str x) (.str x)
  | lst {a : Addr} {xs : List V} {ds : List D} : H a = some (.lst xs) → RepL K H xs ds → Rep K H (.ref a) (.lst ds)
  | tup {a : Addr} {xs : List V} {ds : List D} : SqT K H a xs → RepL K H xs ds → Rep K H (.ref a) (.tup ds)
  | dic {a : Addr} {kvs : List (Key × V)} {ds : List (Key × D)} : H a = some (.dK kvs) → RepK K H kvs ds → Rep K H (.ref a) (.dic ds)
  | ins {a C dx : Addr} {fs : List (Str × V)} {ds : List (Str × D)} : H a = some (.ins C dx fs) → RepF K H fs ds → Rep K H (.ref a) (.ins C ds)
  | ty (n : String) : Rep K H (.ty n) (.ty n)
  | adr (a : Addr) : Rep K H (.ref a) (.adr a)
  | exc {a C dx : Addr} {fs : List (Str × V)} {ds : List (Str × D)} : H a = some (exo a C (some dx)) → H dx = some (exd dx fs) → RepF K H fs ds → Rep K H (.ref a) (.exc C ds)
  | fn {f : Addr} {hs : List (Addr × HO)} {ws : List V} {cs : List D} : (∀ p ∈ hs, H p.1 = some p.2 ∧ ∀ o u, p.2 ≠ .frz o u) → RepL K H ws cs → Rep K H (.ref f) (.fn f hs ws cs)
  | dicN {a : Addr} {w : World} {xs : List (NE V)} {ds : List (NestedKey × D)} : H a = some (HDn w a xs) → RepN K H xs ds → Rep K H (.ref a) (.dicN w ds)
inductive RepL (K : PySem.W.Frag) (H : Hp) : List V → List D → Prop
  | nil : RepL K H [] []
  | cons {v : V} {vs : List V} {d : D} {ds : List D} : Rep K H v d → RepL K H vs ds → RepL K H (v :: vs) (d :: ds)
inductive RepK (K : PySem.W.Frag) (H : Hp) : List (Key × V) → List (Key × D) → Prop
  | nil : RepK K H [] []
  | cons {k : Key} {v : V} {vs : List (Key × V)} {d : D} {ds : List (Key × D)} : Rep K H v d → RepK K H vs ds → RepK K H ((k, v) :: vs) ((k, d) :: ds)
inductive RepF (K : PySem.W.Frag) (H : Hp) : List (Str × V) → List (Str × D) → Prop
  | nil : RepF K H [] []
  | cons {k : Str} {v : V} {vs : List (Str × V)} {d : D} {ds : List (Str × D)} : Rep K H v d → RepF K H vs ds → RepF K H ((k, v) :: vs) ((k, d) :: ds)
inductive RepN (K : PySem.W.Frag) (H : Hp) : List (NE V) → List (NestedKey × D) → Prop
  | nil : RepN K H [] []
  | cons {k : NestedKey} {b : Addr} {v : V} {vs : List (NE V)} {d : D} {ds : List (NestedKey × D)} : k.depth ≤ 8 → Rep K H (.ref b) (nkD k) → Rep K H v d → RepN K H vs ds → RepN K H ((k, b, v) :: vs) ((k, d) :: ds)
end
section
variable {K : PySem.W.Frag} {H H' : Hp}
mutual
theorem Rep.mono (e : Same H H') : ∀ {v : V} {d : D}, Rep K H v d → Rep K H' v d
  | _, _, .non => .non
  | _, _, .bl b => .bl b
  | _, _, .int i => .int i
  | _, _, .str x => .str x
  | _, _, .lst h r => .lst (e _ _ h) (RepL.mono e r)
  | _, _, .tup h r => .tup (same_tup e h) (RepL.mono e r)
  | _, _, .dic h r => .dic (e _ _ h) (RepK.mono e r)
  | _, _, .ins h r => .ins (e _ _ h) (RepF.mono e r)
  | _, _, .ty n => .ty n
  | _, _, .adr a => .adr a
  | _, _, .exc h g r => .exc (e _ _ h) (e _ _ g) (RepF.mono e r)
  | _, _, .fn h r => .fn (fun p hp => ⟨e _ _ (h p hp).1, (h p hp).2⟩) (RepL.mono e r)
  | _, _, .dicN h r => .dicN (e _ _ h) (RepN.mono e r)
theorem RepL.mono (e : Same H H') : ∀ {v : List V} {d : List D}, RepL K H v d → RepL K H' v d
  | _, _, .nil => .nil
  | _, _, .cons h r => .cons (Rep.mono e h) (RepL.mono e r)
theorem RepK.mono (e : Same H H') : ∀ {v : List (Key × V)} {d : List (Key × D)}, RepK K H v d → RepK K H' v d
  | _, _, .nil => .nil
  | _, _, .cons h r => .cons (Rep.mono e h) (RepK.mono e r)
theorem RepF.mono (e : Same H H') : ∀ {v : List (Str × V)} {d : List (Str × D)}, RepF K H v d → RepF K H' v d
  | _, _, .nil => .nil
  | _, _, .cons h r => .cons (Rep.mono e h) (RepF.mono e r)
theorem RepN.mono (e : Same H H') : ∀ {v : List (NE V)} {d : List (NestedKey × D)}, RepN K H v d → RepN K H' v d
  | _, _, .nil => .nil
  | _, _, .cons z k h r => .cons z (Rep.mono e k) (Rep.mono e h) (RepN.mono e r)
end
theorem RepL.length : ∀ {vs : List V} {ds : List D}, RepL K H vs ds → vs.length = ds.length
  | _, _, .nil => rfl
  | _, _, .cons _ r => congrArg Nat.succ (RepL.length r)
theorem RepL.get : ∀ {vs : List V} {ds : List D} {i : Nat} {d : D}, RepL K H vs ds → ds[i]? = some d → ∃ v, vs[i]? = some v ∧ Rep K H v d
  | _, _, _, _, .nil, e => by simp at e
  | _, _, 0, _, .cons h _, e => by simp at e; subst e; exact ⟨_, rfl, h⟩
  | _, _, i + 1, d, .cons _ r, e => by
    obtain ⟨v, h1, h2⟩ := RepL.get (i := i) (d := d) r (by simpa using e)
    exact ⟨v, by simpa using h1, h2⟩
theorem RepL.getV : ∀ {vs : List V} {ds : List D} {i : Nat} {v : V}, RepL K H vs ds → vs[i]? = some v → ∃ d, ds[i]? = some d ∧ Rep K H v d
  | _, _, _, _, .nil, e => by simp at e
  | _, _, 0, _, .cons h _, e => by simp at e; subst e; exact ⟨_, rfl, h⟩
  | _, _, i + 1, d, .cons _ r, e => by
    obtain ⟨v, h1, h2⟩ := RepL.getV (i := i) (v := d) r (by simpa using e)
    exact ⟨v, by simpa using h1, h2⟩
theorem RepL.append : ∀ {vs ws : List V} {ds es : List D}, RepL K H vs ds → RepL K H ws es → RepL K H (vs ++ ws) (ds ++ es)
  | _, _, _, _, .nil, s => s
  | _, _, _, _, .cons h r, s => .cons h (RepL.append r s)
theorem RepL.one {v : V} {d : D} (h : Rep K H v d) : RepL K H [v] [d] := .cons h .nil
theorem RepL.drop : ∀ {vs : List V} {ds : List D} (n : Nat), RepL K H vs ds → RepL K H (vs.drop n) (ds.drop n)
  | _, _, 0, r => r
  | _, _, _ + 1, .nil => .nil
  | _, _, n + 1, .cons _ r => RepL.drop n r
theorem RepL.take : ∀ {vs : List V} {ds : List D} (n : Nat), RepL K H vs ds → RepL K H (vs.take n) (ds.take n)
  | _, _, 0, _ => .nil
  | _, _, _ + 1, .nil => .nil
  | _, _, n + 1, .cons h r => .cons h (RepL.take n r)
theorem RepK.look : ∀ {vs : List (Key × V)} {ds : List (Key × D)}, RepK K H vs ds → vs.map (·.1) = ds.map (·.1)
  | _, _, .nil => rfl
  | _, _, .cons _ r => by simp only [List.map_cons, RepK.look r]
theorem RepF.get : ∀ {vs : List (Str × V)} {ds : List (Str × D)} {f : Str} {d : D}, RepF K H vs ds → ds.lookup f = some d → ∃ v, vs.lookup f = some v ∧ Rep K H v d
  | _, _, _, _, .nil, e => by simp at e
  | _, _, f, d, .cons (k := k) h r, e => by
    rw [List.lookup_cons] at e ⊢
    cases q : f == k with
    | true =>
      rw [q] at e
      cases e
      exact ⟨_, rfl, h⟩
    | false =>
      rw [q] at e
      exact RepF.get r e
theorem RepF.none : ∀ {vs : List (Str × V)} {ds : List (Str × D)} {f : Str}, RepF K H vs ds → ds.lookup f = Option.none → vs.lookup f = Option.none
  | _, _, _, .nil, e => by simp
  | _, _, f, .cons (k := k) h r, e => by
    rw [List.lookup_cons] at e ⊢
    cases q : f == k with
    | true =>
      rw [q] at e
      cases e
    | false =>
      rw [q] at e
      exact RepF.none r e
end

/-! an object of one's own: a list, a dict, an instance -/
inductive OD where
  | lst (ds : List D) | dic (kvs : List (Key × D)) | ins (C : Addr) (fs : List (Str × D)) | dicN (w : World) (kvs : List (NestedKey × D))
/-- what stands at p -/
inductive RepO (K : PySem.W.Frag) (H : Hp) (p : Addr) : HO → OD → Prop
  | lst {xs : List V} {ds : List D} : RepL K H xs ds → RepO K H p (.lst xs) (.lst ds)
  | dic {kvs : List (Key × V)} {ds : List (Key × D)} : RepK K H kvs ds → RepO K H p (.dK kvs) (.dic ds)
  | ins {C dx : Addr} {fs : List (Str × V)} {ds : List (Str × D)} : RepF K H fs ds → RepO K H p (.ins C dx fs) (.ins C ds)
  | dicN {w : World} {xs : List (NE V)} {ds : List (NestedKey × D)} : RepN K H xs ds → RepO K H p (HDn w p xs) (.dicN w ds)
theorem RepO.mono {K : PySem.W.Frag} {H H' : Hp} (e : Same H H') {p : Addr} {o : HO} {d : OD} (h : RepO K H p o d) : RepO K H' p o d := by
  cases h with
  | lst r => exact .lst (r.mono e)
  | dic r => exact .dic (r.mono e)
  | ins r => exact .ins (r.mono e)
  | dicN r => exact .dicN (r.mono e)
/-- it is no code object -/
theorem RepO.code {K : PySem.W.Frag} {H : Hp} {p : Addr} {o : HO} {d : OD} (h : RepO K H p o d) (c : Addr) (q : Str) : o ≠ LamX.CodeO c q := fun e => by
  cases h with
  | lst r => unfold LamX.CodeO at e; cases e
  | dic r => unfold LamX.CodeO at e; cases e
  | ins r => unfold LamX.CodeO at e; cases e
  | dicN r => exact HDn_code e
/-- as data -/
def OD.d : OD → D
  | .lst ds => .lst ds | .dic kvs => .dic kvs | .ins C fs => .ins C fs | .dicN w kvs => .dicN w kvs
theorem RepO.rep {K : PySem.W.Frag} {H : Hp} {a : Addr} {o : HO} {d : OD} (h : RepO K H a o d) (e : H a = some o) : Rep K H (.ref a) d.d := by
  cases h with
  | lst r => exact .lst e r
  | dic r => exact .dic e r
  | ins r => exact .ins e r
  | dicN r => exact .dicN e r

/-! ### the bag of the draws -/
def BagAt (H : Hp) (b c : Addr) : Prop := ∃ (ns : List Int) (i : Nat) (z s t : Int),
  H b = some (.lst [.ref c, .int (i : Int), .int z, .int s, .int t]) ∧ c ≠ b ∧ H c = some (.lst (ns.map V.int)) ∧ i ≤ ns.length ∧ ns.length ≤ 63 ∧ 0 ≤ z ∧ 0 ≤ s ∧ s < 2147483587 ∧ 0 ≤ t
theorem BagAt.mono {H H' : Hp} {b c : Addr} (e : Same H H') : BagAt H b c → BagAt H' b c := fun ⟨ns, i, z, s, t, h1, h2, h3, h4⟩ =>
  ⟨ns, i, z, s, t, e _ _ h1, h2, e _ _ h3, h4⟩
theorem BagAt.at {H : Hp} {b c : Addr} (h : BagAt H b c) : ∃ o, H b = some o := by
  obtain ⟨ns, i, z, s, t, h1, _⟩ := h
  exact ⟨_, h1⟩

/-! ### the frame of a def -/
structure Fm where
  K : PySem.W.Frag
  B : Option Addr
  M0 : Addr → Bool
  H0 : Hp
  E : XK
  C0 : Addr
  T : List (Addr × Str)
/-- what may change: the bag, the tables of code objects -/
def Fm.mv (F : Fm) (a : Addr) : Prop := F.B = some a ∨ ∃ p ∈ F.T, p.1 = a
theorem mv_none {F : Fm} (hB : F.B = none) (hT : F.T = []) (a : Addr) : ¬ F.mv a := fun z => by
  rcases z with z | z
  · rw [hB] at z; cases z
  · obtain ⟨p, z, _⟩ := z
    rw [hT] at z; cases z
theorem mv_bag {F : Fm} {b : Addr} (hB : F.B = some b) (hT : F.T = []) {a : Addr} (h : a ≠ b) : ¬ F.mv a := fun z => by
  rcases z with z | z
  · rw [hB] at z; exact h (Option.some.inj z).symm
  · obtain ⟨p, z, _⟩ := z
    rw [hT] at z; cases z
/-- all but the bag is kept -/
def StepB (P : Addr → Prop) (H H' : Hp) : Prop := ∀ a o, ¬ P a → H a = some o → H' a = some o
theorem StepB.refl (B : Addr → Prop) (H : Hp) : StepB B H H := fun _ _ _ h => h
theorem StepB.trans {B : Addr → Prop} {H H1 H2 : Hp} (a : StepB B H H1) (b : StepB B H1 H2) : StepB B H H2 := fun c o n h => b c o n (a c o n h)
theorem StepB.of {B : Addr → Prop} {H H' : Hp} (e : Same H H') : StepB B H H' := fun a o _ h => e a o h
/-- what a slot bears -/
inductive SD where
  | un | dat (d : D) | own (p : Addr) (ds : OD) | bag | sq (ds : List D) | sl (ds : List D) | oll (p : Addr) (qs : List (Addr × List D)) | sto (d : D) (Ω : List (Addr × OD)) | stR (d : D) (Ω : List (Addr × OD))
/-- the objects that are the slot's own -/
def SD.ads : SD → List Addr
  | .own p _ => [p] | .sto _ Ω => Ω.map (·.1)
  | .un => [] | .dat _ => [] | .bag => [] | .sq _ => [] | .sl _ => [] | .oll _ _ => [] | .stR _ _ => []
/-- a hidden list, older than the frame, of hidden lists -/
def LL (F : Fm) (M : Addr → Bool) (H : Hp) (p : Addr) (qs : List (Addr × List D)) : Prop := (∀ a ∈ p :: qs.map Prod.fst, M a = true ∧ ¬ F.mv a ∧ F.H0 a ≠ none) ∧ H p = some (.lst (qs.map fun q => .ref q.1)) ∧ ∀ q ∈ qs, ∃ us, H q.1 = some (.lst us) ∧ RepL F.K (hd M H) us q.2
theorem LL.mono {F : Fm} {M M' : Addr → Bool} {H H' : Hp} {p : Addr} {qs : List (Addr × List D)} (h : LL F M H p qs) (hm : ∀ a, M a = true → F.H0 a ≠ none → M' a = true) (hk : ∀ a o, M a = true → ¬ F.mv a → F.H0 a ≠ none → H a = some o → H' a = some o) (s : Same (hd M H) (hd M' H')) : LL F M' H' p qs := by
  obtain ⟨h1, h2, h3⟩ := h
  refine ⟨fun a ha => ⟨hm a (h1 a ha).1 (h1 a ha).2.2, (h1 a ha).2⟩, hk p _ (h1 p (by simp)).1 (h1 p (by simp)).2.1 (h1 p (by simp)).2.2 h2, fun q hq => ?_⟩
  obtain ⟨us, h4, h5⟩ := h3 q hq
  have hm := h1 q.1 (List.mem_cons_of_mem _ (List.mem_map_of_mem hq))
  exact ⟨us, hk q.1 _ hm.1 hm.2.1 hm.2.2 h4, h5.mono s⟩
/-- hidden objects -/
def StH (F : Fm) (M : Addr → Bool) (H : Hp) (Ω : List (Addr × OD)) : Prop := ∀ q ∈ Ω, M q.1 = true ∧ ∃ o, H q.1 = some o ∧ RepO F.K (hd M H) q.1 o q.2
theorem StH.mono {F : Fm} {M M' : Addr → Bool} {H H' : Hp} {Ω : List (Addr × OD)} (h : StH F M H Ω) (hm : ∀ q ∈ Ω, M q.1 = true → M' q.1 = true) (hk : ∀ q ∈ Ω, ∀ o, M q.1 = true → H q.1 = some o → H' q.1 = some o) (s : Same (hd M H) (hd M' H')) : StH F M' H' Ω := fun q hq => by
  obtain ⟨m, o, h1, h2⟩ := h q hq
  exact ⟨hm q hq m, o, hk q hq o m h1, h2.mono s⟩
def Sto (F : Fm) (M : Addr → Bool) (H : Hp) (Ω : List (Addr × OD)) : Prop := (Ω.map (·.1)).Nodup ∧ StH F M H Ω
/-- older than the frame: they are only read -/
def StR (F : Fm) (M : Addr → Bool) (H : Hp) (Ω : List (Addr × OD)) : Prop := (∀ q ∈ Ω, F.H0 q.1 ≠ none ∧ ¬ F.mv q.1) ∧ StH F M H Ω
def SlotOk (F : Fm) (M : Addr → Bool) (H : Hp) (s : Option V) : SD → Prop
  | .un => True
  | .dat d => ∃ v, s = some v ∧ Rep F.K (hd M H) v d
  | .own p ds => s = some (.ref p) ∧ M p = true ∧ ∃ vs, H p = some vs ∧ RepO F.K (hd M H) p vs ds
  | .bag => ∃ b, F.B = some b ∧ s = some (.ref b)
  | .sq ds => ∃ p vs, s = some (.ref p) ∧ ¬ F.mv p ∧ (SqL F.K F.H0 p vs ∨ SqT F.K F.H0 p vs) ∧ RepL F.K (hd M H) vs ds
  | .sl ds => ∃ p vs, s = some (.ref p) ∧ ¬ F.mv p ∧ SqL F.K F.H0 p vs ∧ RepL F.K (hd M H) vs ds
  | .oll p qs => s = some (.ref p) ∧ LL F M H p qs
  | .sto d Ω => (∃ v, s = some v ∧ Rep F.K (hd M H) v d) ∧ Sto F M H Ω
  | .stR d Ω => (∃ v, s = some v ∧ Rep F.K (hd M H) v d) ∧ StR F M H Ω
/-- no code object is hidden -/
def NX (M : Addr → Bool) (H : Hp) : Prop := ∀ a q, M a = true → H a ≠ some (LamX.CodeO a q)
structure Ctx (F : Fm) (M : Addr → Bool) (σ : L2.St) (H : Hp) (δ : List SD) : Prop where
  al : ∀ a, M a = true → ∃ o, H a = some o
  al0 : ∀ a, F.M0 a = true → ∃ o, F.H0 a = some o
  m0 : ∀ a, F.M0 a = true → M a = true
  fr : StepB F.mv F.H0 H
  bg : (∀ b, F.B = some b → F.M0 b = true ∧ BagAt H b F.C0 ∧ ∃ o, F.H0 F.C0 = some o) ∧ ∀ p ∈ F.T, F.M0 p.1 = true ∧ LamX.TabS H p.1 p.2 ∧ NX M H
  ln : σ.length = δ.length
  sl : ∀ (i : Nat) (x : SD), δ[i]? = some x → ∃ s, σ[i]? = some s ∧ SlotOk F M H s x
  dj : ∀ (i j : Nat) (x y : SD) (p : Addr), δ[i]? = some x → δ[j]? = some y → p ∈ x.ads → p ∈ y.ads → i = j
  oh : ∀ (i : Nat) (x : SD) (p : Addr), δ[i]? = some x → p ∈ x.ads → F.H0 p = none ∧ ¬ F.mv p
section
variable {F : Fm} {M M' : Addr → Bool} {σ : L2.St} {H H' : Hp} {δ : List SD}
theorem own_ads {p : Addr} {ds : OD} : p ∈ (SD.own p ds).ads := List.mem_singleton.mpr rfl
theorem Ctx.dj1 (c : Ctx F M σ H δ) {i j : Nat} {p : Addr} {ds es : OD} (h1 : δ[i]? = some (.own p ds)) (h2 : δ[j]? = some (.own p es)) : i = j := c.dj i j _ _ p h1 h2 own_ads own_ads
theorem Ctx.oh1 (c : Ctx F M σ H δ) {i : Nat} {p : Addr} {ds : OD} (h : δ[i]? = some (.own p ds)) : F.H0 p = none ∧ ¬ F.mv p := c.oh i _ p h own_ads
theorem hd_step (c : Ctx F M σ H δ) (e : StepB F.mv H H') : Same (hd M H) (hd M H') := fun a o h => by
  obtain ⟨m, h1⟩ := hd_of h
  refine hd_at m (e a o (fun z => ?_) h1)
  have q := c.m0 a (z.elim (fun z => (c.bg.1 a z).1) fun ⟨p, z, e⟩ => e ▸ (c.bg.2 p z).1)
  rw [m] at q
  cases q
theorem SlotOk.step (c : Ctx F M σ H δ) (e : StepB F.mv H H') {s : Option V} {x : SD} (hx : ∀ p ∈ x.ads, ¬ F.mv p) (h : SlotOk F M H s x) : SlotOk F M H' s x := by
  cases x with
  | un => trivial
  | dat d =>
    obtain ⟨v, h1, h2⟩ := h
    exact ⟨v, h1, h2.mono (hd_step c e)⟩
  | own p ds =>
    obtain ⟨h1, h2, vs, h3, h4⟩ := h
    exact ⟨h1, h2, vs, e p _ (hx p (by simp [SD.ads])) h3, h4.mono (hd_step c e)⟩
  | bag => exact h
  | sq ds =>
    obtain ⟨p, vs, h1, h2, h3, h4⟩ := h
    exact ⟨p, vs, h1, h2, h3, h4.mono (hd_step c e)⟩
  | sl ds =>
    obtain ⟨p, vs, h1, h2, h3, h4⟩ := h
    exact ⟨p, vs, h1, h2, h3, h4.mono (hd_step c e)⟩
  | oll p qs => exact ⟨h.1, h.2.mono (fun _ m _ => m) (fun a o _ nm _ h => e a o nm h) (hd_step c e)⟩
  | sto d Ω =>
    obtain ⟨⟨v, h1, h2⟩, n, h3⟩ := h
    exact ⟨⟨v, h1, h2.mono (hd_step c e)⟩, n, h3.mono (fun _ _ m => m) (fun q hq o _ h => e q.1 o (hx q.1 (List.mem_map_of_mem hq)) h) (hd_step c e)⟩
  | stR d Ω =>
    obtain ⟨⟨v, h1, h2⟩, n, h3⟩ := h
    exact ⟨⟨v, h1, h2.mono (hd_step c e)⟩, n, h3.mono (fun _ _ m => m) (fun q hq o _ h => e q.1 o (n q hq).2 h) (hd_step c e)⟩
/-- all but the bag is kept, the bag stays a bag -/
theorem Ctx.stepG (c : Ctx F M σ H δ) (e : StepB F.mv H H') (bg : (∀ b, F.B = some b → F.M0 b = true ∧ BagAt H' b F.C0 ∧ ∃ o, F.H0 F.C0 = some o) ∧ ∀ p ∈ F.T, F.M0 p.1 = true ∧ LamX.TabS H' p.1 p.2 ∧ NX M H') : Ctx F M σ H' δ := by
  refine ⟨fun a m => ?_, c.al0, c.m0, c.fr.trans e, bg, c.ln, fun i x hx => ?_, c.dj, c.oh⟩
  · by_cases z : F.mv a
    · rcases z with z | z
      · obtain ⟨_, h2, _⟩ := bg.1 a z
        exact h2.at
      · obtain ⟨p, z, e⟩ := z
        obtain ⟨_, ⟨ps, h2, _⟩, _⟩ := bg.2 p z
        exact ⟨_, e ▸ h2⟩
    · obtain ⟨o, h⟩ := c.al a m
      exact ⟨o, e a o z h⟩
  · obtain ⟨s, h1, h2⟩ := c.sl i x hx
    exact ⟨s, h1, h2.step c e fun p hp => (c.oh i x p hx hp).2⟩
theorem tabS_step {H H' : Hp} {P : Addr} {q : Str} (t : LamX.TabS H P q) (hP : ∀ ps, H P = some (.tbl ps) → H' P = some (.tbl ps)) (k : ∀ c, H c = some (LamX.CodeO c q) → H' c = some (LamX.CodeO c q)) : LamX.TabS H' P q := by
  obtain ⟨ps, h1, h2, h3⟩ := t
  refine ⟨ps, hP ps h1, h2, fun pos cv hc => ?_⟩
  obtain ⟨c, e1, e2⟩ := h3 pos cv hc
  exact ⟨c, e1, k c e2⟩
theorem Ctx.step (c : Ctx F M σ H δ) (e : StepB F.mv H H') (hb : ∀ b, F.B = some b → BagAt H b F.C0 → BagAt H' b F.C0) (ht : ∀ p ∈ F.T, LamX.TabS H p.1 p.2 → LamX.TabS H' p.1 p.2) : Ctx F M σ H' δ :=
  c.stepG e ⟨fun b z => by
    obtain ⟨h1, h2, h3⟩ := c.bg.1 b z
    exact ⟨h1, hb b z h2, h3⟩, fun p h => by
    obtain ⟨h1, h2, h3⟩ := c.bg.2 p h
    refine ⟨h1, ht p h h2, fun a x m z => ?_⟩
    obtain ⟨o, ho⟩ := c.al a m
    by_cases hv : F.mv a
    · rcases hv with hv | ⟨r, hv, e'⟩
      · obtain ⟨_, g2, _⟩ := c.bg.1 a hv
        obtain ⟨_, _, _, _, _, g3, _⟩ := hb a hv g2
        rw [z] at g3
        cases g3
      · obtain ⟨ps, g2, _⟩ := ht r hv (c.bg.2 r hv).2.1
        rw [e', z] at g2
        cases g2
    · have g := e a o hv ho
      rw [z] at g
      cases g
      exact h3 a x m ho⟩
theorem Ctx.same (c : Ctx F M σ H δ) (e : Same H H') : Ctx F M σ H' δ := c.step (StepB.of e) (fun b z h => h.mono e) fun p _ h => h.ext e
theorem Ctx.get (c : Ctx F M σ H δ) {i : Nat} {d : D} (h : δ[i]? = some (.dat d)) : ∃ v, σ[i]? = some (some v) ∧ Rep F.K (hd M H) v d := by
  obtain ⟨s, h1, v, h2, h3⟩ := c.sl i _ h
  subst h2
  exact ⟨v, h1, h3⟩
theorem Ctx.set (c : Ctx F M σ H δ) (i : Nat) {v : V} {d : D} (r : Rep F.K (hd M H) v d) : Ctx F M (σ.set i (some v)) H (δ.set i (.dat d)) := by
  have key : ∀ (j : Nat) (x : SD), (δ.set i (.dat d))[j]? = some x → (i = j ∧ x = .dat d) ∨ (i ≠ j ∧ δ[j]? = some x) := fun j x hx => by
    by_cases hj : i = j
    · subst hj
      rw [List.getElem?_set] at hx
      rw [if_pos rfl] at hx
      split at hx
      · exact .inl ⟨rfl, (Option.some.inj hx).symm⟩
      · cases hx
    · rw [List.getElem?_set_ne hj] at hx
      exact .inr ⟨hj, hx⟩
  refine ⟨c.al, c.al0, c.m0, c.fr, c.bg, by rw [List.length_set, List.length_set, c.ln], fun j x hx => ?_, fun j k y z p h1 h2 hp hq => ?_, fun j y p h hp => ?_⟩
  · rcases key j x hx with ⟨rfl, rfl⟩ | ⟨hj, hx⟩
    · have hl : i < σ.length := by
        have := (List.getElem?_eq_some_iff.mp hx).1
        rw [List.length_set] at this
        rw [c.ln]
        exact this
      exact ⟨some v, by rw [List.getElem?_set_self hl], v, rfl, r⟩
    · rw [List.getElem?_set_ne hj]
      exact c.sl j x hx
  · rcases key j _ h1 with ⟨_, e⟩ | ⟨_, h1⟩
    · subst e; cases hp
    rcases key k _ h2 with ⟨_, e⟩ | ⟨_, h2⟩
    · subst e; cases hq
    exact c.dj j k y z p h1 h2 hp hq
  · rcases key j _ h with ⟨_, e⟩ | ⟨_, h⟩
    · subst e; cases hp
    exact c.oh j y p h hp
/-- a slot forgotten -/
theorem Ctx.drop (c : Ctx F M σ H δ) (i : Nat) (s : Option V) : Ctx F M (σ.set i s) H (δ.set i .un) := by
  have key : ∀ (j : Nat) (x : SD), (δ.set i .un)[j]? = some x → (i = j ∧ x = .un) ∨ (i ≠ j ∧ δ[j]? = some x) := fun j x hx => by
    by_cases hj : i = j
    · subst hj
      rw [List.getElem?_set] at hx
      rw [if_pos rfl] at hx
      split at hx
      · exact .inl ⟨rfl, (Option.some.inj hx).symm⟩
      · cases hx
    · rw [List.getElem?_set_ne hj] at hx
      exact .inr ⟨hj, hx⟩
  refine ⟨c.al, c.al0, c.m0, c.fr, c.bg, by rw [List.length_set, List.length_set, c.ln], fun j x hx => ?_, fun j k y z p h1 h2 hp hq => ?_, fun j y p h hp => ?_⟩
  · rcases key j x hx with ⟨rfl, rfl⟩ | ⟨hj, hx⟩
    · have hl : i < σ.length := by
        have := (List.getElem?_eq_some_iff.mp hx).1
        rw [List.length_set] at this
        rw [c.ln]
        exact this
      exact ⟨s, by rw [List.getElem?_set_self hl], trivial⟩
    · rw [List.getElem?_set_ne hj]
      exact c.sl j x hx
  · rcases key j _ h1 with ⟨_, e⟩ | ⟨_, h1⟩
    · subst e; cases hp
    rcases key k _ h2 with ⟨_, e⟩ | ⟨_, h2⟩
    · subst e; cases hq
    exact c.dj j k y z p h1 h2 hp hq
  · rcases key j _ h with ⟨_, e⟩ | ⟨_, h⟩
    · subst e; cases hp
    exact c.oh j y p h hp
def wipeD (δ : List SD) : List Nat → List SD
  | [] => δ
  | v :: vs => (wipeD δ vs).set v .un
theorem Ctx.wipe (c : Ctx F M σ H δ) : ∀ vs : List Nat, Ctx F M (wipe σ vs) H (wipeD δ vs)
  | [] => c
  | v :: vs => (Ctx.wipe c vs).drop v none
end

/-! ### judgements -/
def Ev (F : Fm) (te : TE) (δ : List SD) (P : D → Prop) : Prop := ∀ M σ H (Q : VK), Ctx F M σ H δ →
  (∀ v d H', P d → Ctx F M σ H' δ → StepB F.mv H H' → Rep F.K (hd M H') v d → Q v H') → te σ H Q
def EvT (F : Fm) (tt : TT) (δ : List SD) (P : Bool → Prop) : Prop := ∀ M σ H (Q : Bool → Hp → Prop), Ctx F M σ H δ →
  (∀ b H', P b → Ctx F M σ H' δ → StepB F.mv H H' → Q b H') → tt σ H Q
def EvA (F : Fm) (ta : TA) (δ : List SD) (P : List D → Prop) : Prop := ∀ M σ H (Q : List V → Hp → Prop), Ctx F M σ H δ →
  (∀ vs ds H', P ds → Ctx F M σ H' δ → StepB F.mv H H' → RepL F.K (hd M H') vs ds → Q vs H') → ta σ H Q
def Al (M : Addr → Bool) (H : Hp) : Prop := ∀ a, M a = true → ∃ o, H a = some o
/-- a two-place operation on data -/
def OpD (K : PySem.W.Frag) (r : R2) (x y : D) (P : D → Prop) : Prop := ∀ (M : Addr → Bool) (H : Hp) (v w : V) (Q : VK), Al M H → Rep K (hd M H) v x → Rep K (hd M H) w y →
  (∀ u d H', P d → Same H H' → Rep K (hd M H') u d → Q u H') → r v w H Q
def UnD (K : PySem.W.Frag) (r : V → Hp → VK → Prop) (x : D) (P : D → Prop) : Prop := ∀ (M : Addr → Bool) (H : Hp) (v : V) (Q : VK), Al M H → Rep K (hd M H) v x →
  (∀ u d H', P d → Same H H' → Rep K (hd M H') u d → Q u H') → r v H Q
/-- a call on data -/
def CallD (K : PySem.W.Frag) (r : List V → Hp → VK → Prop) (ds : List D) (P : D → Prop) : Prop := ∀ (M : Addr → Bool) (H : Hp) (vs : List V) (Q : VK), Al M H → RepL K (hd M H) vs ds →
  (∀ u d H', P d → Same H H' → Rep K (hd M H') u d → Q u H') → r vs H Q
theorem sz_of {n : Nat} (h : n ≤ 100000) : n ≤ sizeLine := Nat.le_trans h (by decide)
theorem sz_lt {n : Nat} (h : n < 100000) : n < sizeLine := Nat.lt_of_lt_of_le h (by decide)
theorem hd_new {M : Addr → Bool} {H : Hp} {p : Addr} {o : HO} (al : Al M H) (hp : H p = none) : hd M (upd H p o) p = some o := by
  refine hd_at ?_ upd_same
  cases e : M p with
  | true =>
    obtain ⟨u, h⟩ := al p e
    rw [hp] at h
    cases h
  | false => rfl
theorem same_hdM {M : Addr → Bool} {H H' : Hp} (e : Same H H') : Same (hd M H) (hd M H') := fun a o h => by
  obtain ⟨m, h1⟩ := hd_of h
  exact hd_at m (e a o h1)
section
variable {F : Fm} {δ : List SD} {ta tb tc te : TE} {tt tu : TT} {P P1 P2 P3 : D → Prop} {PT : Bool → Prop} {PA : List D → Prop}
theorem Ev.imp (h : Ev F te δ P) (i : ∀ d, P d → P1 d) : Ev F te δ P1 := fun M σ H Q c q => h M σ H Q c fun v d H' p => q v d H' (i d p)
theorem EvT.imp {PB PC : Bool → Prop} (h : EvT F tt δ PB) (i : ∀ d, PB d → PC d) : EvT F tt δ PC := fun M σ H Q c q => h M σ H Q c fun v H' p => q v H' (i v p)
theorem EvA.imp {ta : TA} {PB PC : List D → Prop} (h : EvA F ta δ PB) (i : ∀ d, PB d → PC d) : EvA F ta δ PC := fun M σ H Q c q => h M σ H Q c fun v d H' p => q v d H' (i d p)
theorem ev_var {i : Nat} {d : D} (h : δ[i]? = some (.dat d)) (p : P d) : Ev F (tVar i) δ P := fun M σ H Q c q => by
  obtain ⟨v, h1, h2⟩ := c.get h
  exact ⟨v, h1, q v d H p c (StepB.refl _ _) h2⟩
theorem ev_int {i : Int} (p : P (.int i)) : Ev F (tC (.int i)) δ P := fun M σ H Q c q => q _ _ H p c (StepB.refl _ _) (.int i)
theorem ev_bl {b : Bool} (p : P (.bl b)) : Ev F (tC (.bl b)) δ P := fun M σ H Q c q => q _ _ H p c (StepB.refl _ _) (.bl b)
theorem ev_str {x : Str} (p : P (.str x)) : Ev F (tC (.str x)) δ P := fun M σ H Q c q => q _ _ H p c (StepB.refl _ _) (.str x)
theorem ev_ty {n : String} (p : P (.ty n)) : Ev F (tC (.ty n)) δ P := fun M σ H Q c q => q _ _ H p c (StepB.refl _ _) (.ty n)
theorem ev_adr {a : Addr} (p : P (.adr a)) : Ev F (tC (.ref a)) δ P := fun M σ H Q c q => q _ _ H p c (StepB.refl _ _) (.adr a)
theorem ev_non (p : P .non) : Ev F (tC .non) δ P := fun M σ H Q c q => q _ _ H p c (StepB.refl _ _) .non
theorem ev_op {r : R2} (h : Ev F ta δ fun x => Ev F tb δ fun y => OpD F.K r x y P) : Ev F (tOp r ta tb) δ P := fun M σ H Q c q =>
  h M σ H _ c fun v x H1 p1 c1 e1 r1 => p1 M σ H1 _ c1 fun w y H2 p2 c2 e2 r2 =>
    p2 M H2 v w Q c2.al (r1.mono (hd_step c1 e2)) r2 fun u d H3 p e r3 => q u d H3 p (c2.same e) ((e1.trans e2).trans (StepB.of e)) r3
theorem ev_un {r : V → Hp → VK → Prop} (h : Ev F ta δ fun x => UnD F.K r x P) : Ev F (tUn r ta) δ P := fun M σ H Q c q =>
  h M σ H _ c fun v x H1 p1 c1 e1 r1 => p1 M H1 v Q c1.al r1 fun u d H3 p e r3 => q u d H3 p (c1.same e) (e1.trans (StepB.of e)) r3
/-- and, or, not of bools, as values -/
theorem ev_and (h : Ev F ta δ fun d => ∃ b, d = .bl b ∧ (b = true → Ev F tb δ P) ∧ (b = false → P (.bl false))) : Ev F (tAndV ta tb) δ P := fun M σ H Q c q =>
  h M σ H _ c fun v x H1 p1 c1 e1 r1 => by
    obtain ⟨b, rfl, h1, h2⟩ := p1
    cases r1
    refine ⟨b, rfl, ?_⟩
    cases b with
    | true => exact h1 rfl M σ H1 Q c1 fun u d H2 p c2 e2 r2 => q u d H2 p c2 (e1.trans e2) r2
    | false => exact q _ _ H1 (h2 rfl) c1 e1 (.bl false)
theorem ev_or (h : Ev F ta δ fun d => ∃ b, d = .bl b ∧ (b = false → Ev F tb δ P) ∧ (b = true → P (.bl true))) : Ev F (tOrV ta tb) δ P := fun M σ H Q c q =>
  h M σ H _ c fun v x H1 p1 c1 e1 r1 => by
    obtain ⟨b, rfl, h1, h2⟩ := p1
    cases r1
    refine ⟨b, rfl, ?_⟩
    cases b with
    | false => exact h1 rfl M σ H1 Q c1 fun u d H2 p c2 e2 r2 => q u d H2 p c2 (e1.trans e2) r2
    | true => exact q _ _ H1 (h2 rfl) c1 e1 (.bl true)
theorem ev_not (h : Ev F ta δ fun d => ∃ b, d = .bl b ∧ P (.bl (!b))) : Ev F (tNotV ta) δ P := fun M σ H Q c q =>
  h M σ H _ c fun v x H1 p1 c1 e1 r1 => by
    obtain ⟨b, rfl, pb⟩ := p1
    cases r1
    exact ⟨b, rfl, q _ _ H1 pb c1 e1 (.bl _)⟩
theorem ev_if (h : EvT F tt δ fun b => (b = true → Ev F ta δ P) ∧ (b = false → Ev F tb δ P)) : Ev F (tIf tt ta tb) δ P := fun M σ H Q c q =>
  h M σ H _ c fun b H1 pb c1 e1 => by
    cases b with
    | true => exact pb.1 rfl M σ H1 Q c1 fun u d H2 p c2 e2 r2 => q u d H2 p c2 (e1.trans e2) r2
    | false => exact pb.2 rfl M σ H1 Q c1 fun u d H2 p c2 e2 r2 => q u d H2 p c2 (e1.trans e2) r2
/-- a op1 b op2 c -/
theorem ev_chain {r r' : R2} (h : Ev F ta δ fun x => Ev F tb δ fun y => OpD F.K r x y fun z => ∃ b, z = .bl b ∧ (b = true → Ev F tc δ fun w => OpD F.K r' y w P) ∧ (b = false → P (.bl false))) : Ev F (tChain r r' ta tb tc) δ P := fun M σ H Q c q =>
  by
  refine h M σ H _ c fun v x H1 p1 c1 e1 r1 => ?_
  refine p1 M σ H1 _ c1 fun w y H2 p2 c2 e2 r2 => ?_
  refine p2 M H2 v w _ c2.al (r1.mono (hd_step c1 e2)) r2 fun u d H3 p e r3 => ?_
  obtain ⟨b, rfl, h1, h2⟩ := p
  cases r3
  refine ⟨b, rfl, ?_⟩
  cases b with
  | false => exact q _ _ H3 (h2 rfl) (c2.same e) ((e1.trans e2).trans (StepB.of e)) (.bl false)
  | true =>
    rw [if_pos rfl]
    refine h1 rfl M σ H3 _ (c2.same e) fun u4 d4 H4 p4 c4 e4 r4 => ?_
    refine p4 M H4 w u4 Q c4.al (r2.mono ((same_hdM e).trans (hd_step (c2.same e) e4))) r4 fun u5 d5 H5 p5 e5 r5 => ?_
    exact q u5 d5 H5 p5 (c4.same e5) (((e1.trans e2).trans (StepB.of e)).trans (e4.trans (StepB.of e5))) r5
/-! tests -/
theorem et_test (h : Ev F te δ fun d => ∃ b, d = .bl b ∧ PT b) : EvT F (tTest te) δ PT := fun M σ H Q c q =>
  h M σ H _ c fun v x H1 p1 c1 e1 r1 => by
    obtain ⟨b, rfl, pb⟩ := p1
    cases r1
    exact ⟨b, rfl, q b H1 pb c1 e1⟩
theorem et_B (h : Ev F te δ fun d => ∃ b, d = .bl b ∧ PT b) : EvT F (tB te) δ PT := fun M σ H Q c q =>
  h M σ H _ c fun v x H1 p1 c1 e1 r1 => by
    obtain ⟨b, rfl, pb⟩ := p1
    cases r1
    exact ⟨b, rfl, q b H1 pb c1 e1⟩
theorem et_and (h : EvT F tt δ fun b => (b = true → EvT F tu δ PT) ∧ (b = false → PT false)) : EvT F (tAnd tt tu) δ PT := fun M σ H Q c q =>
  h M σ H _ c fun b H1 pb c1 e1 => by
    cases b with
    | true => exact pb.1 rfl M σ H1 Q c1 fun b2 H2 p c2 e2 => q b2 H2 p c2 (e1.trans e2)
    | false => exact q false H1 (pb.2 rfl) c1 e1
theorem et_or (h : EvT F tt δ fun b => (b = false → EvT F tu δ PT) ∧ (b = true → PT true)) : EvT F (tOr tt tu) δ PT := fun M σ H Q c q =>
  h M σ H _ c fun b H1 pb c1 e1 => by
    cases b with
    | false => exact pb.1 rfl M σ H1 Q c1 fun b2 H2 p c2 e2 => q b2 H2 p c2 (e1.trans e2)
    | true => exact q true H1 (pb.2 rfl) c1 e1
theorem et_not (h : EvT F tt δ fun b => PT (!b)) : EvT F (tNot tt) δ PT := fun M σ H Q c q =>
  h M σ H _ c fun b H1 pb c1 e1 => q (!b) H1 pb c1 e1
theorem et_yes (p : PT true) : EvT F tYes δ PT := fun M σ H Q c q => q true H p c (StepB.refl _ _)
/-! lists of values -/
theorem ea_nil (p : PA []) : EvA F tNil δ PA := fun M σ H Q c q => q [] [] H p c (StepB.refl _ _) .nil
theorem ea_cons {tr : TA} (h : Ev F te δ fun x => EvA F tr δ fun r => PA (x :: r)) : EvA F (tCons te tr) δ PA := fun M σ H Q c q =>
  h M σ H _ c fun v x H1 p1 c1 e1 r1 => p1 M σ H1 _ c1 fun vs ds H2 p2 c2 e2 r2 => q _ (x :: ds) H2 p2 c2 (e1.trans e2) (.cons (r1.mono (hd_step c1 e2)) r2)
theorem ev_tup {ta : TA} (h : EvA F ta δ fun ds => ds.length ≤ 100000 ∧ P (.tup ds)) : Ev F (tTup ta) δ P := fun M σ H Q c q =>
  h M σ H _ c fun vs ds H1 p1 c1 e1 r1 => ⟨by rw [r1.length]; exact sz_of p1.1, fun p hp =>
    q _ (.tup ds) _ p1.2 (c1.same (same_new hp)) (e1.trans (StepB.of (same_new hp))) (.tup (SqT.of (hd_new c1.al hp)) (r1.mono (same_hdM (same_new hp))))⟩
theorem ev_lst {ta : TA} (h : EvA F ta δ fun ds => ds.length ≤ 100000 ∧ P (.lst ds)) : Ev F (tLst ta) δ P := fun M σ H Q c q =>
  h M σ H _ c fun vs ds H1 p1 c1 e1 r1 => ⟨by rw [r1.length]; exact sz_of p1.1, fun p hp =>
    q _ (.lst ds) _ p1.2 (c1.same (same_new hp)) (e1.trans (StepB.of (same_new hp))) (.lst (hd_new c1.al hp) (r1.mono (same_hdM (same_new hp))))⟩
theorem ev_cb {r : List V → Hp → VK → Prop} {ta : TA} (h : EvA F ta δ fun ds => CallD F.K r ds P) : Ev F (tCB r ta) δ P := fun M σ H Q c q =>
  h M σ H _ c fun vs ds H1 p1 c1 e1 r1 => p1 M H1 vs Q c1.al r1 fun u d H2 p e r2 => q u d H2 p (c1.same e) (e1.trans (StepB.of e)) r2
end
/-! ### operations on data -/
section
variable {K : PySem.W.Frag} {P : D → Prop} {i j : Int}
theorem od_I0 {g : Int → Int → V} {d : D} (hr : ∀ H, Rep K H (g i j) d) (p : P d) : OpD K (rI0 g) (.int i) (.int j) P := fun M H v w Q al r1 r2 q => by
  cases r1
  cases r2
  exact ⟨i, j, rfl, rfl, q _ d H p (Same.refl H) (hr _)⟩
theorem od_I {C : Int → Int → Prop} {g : Int → Int → V} {d : D} (hc : C i j) (hr : ∀ H, Rep K H (g i j) d) (p : P d) : OpD K (rI C g) (.int i) (.int j) P := fun M H v w Q al r1 r2 q => by
  cases r1
  cases r2
  exact ⟨i, j, rfl, rfl, hc, q _ d H p (Same.refl H) (hr _)⟩
theorem od_int {g : Int → Int → Int} (p : P (.int (g i j))) : OpD K (rI0 fun i j => .int (g i j)) (.int i) (.int j) P := od_I0 (fun _ => .int _) p
theorem od_bl {g : Int → Int → Bool} (p : P (.bl (g i j))) : OpD K (rI0 fun i j => .bl (g i j)) (.int i) (.int j) P := od_I0 (fun _ => .bl _) p
theorem od_intC {C : Int → Int → Prop} {g : Int → Int → Int} (hc : C i j) (p : P (.int (g i j))) : OpD K (rI C fun i j => .int (g i j)) (.int i) (.int j) P := od_I hc (fun _ => .int _) p
end
end Pf

namespace Pf
open PySem L2 RZ

/-! ### statements on data -/
structure PD where
  nx : List SD → Prop
  rt : D → Prop := fun _ => False
  bk : List SD → Prop := fun _ => False
  ct : List SD → Prop := fun _ => False
def Do (F : Fm) (ts : TS) (δ : List SD) (P : PD) : Prop := ∀ M σ H (E : Ends), Ctx F M σ H δ →
  (∀ M' σ' H' δ', P.nx δ' → Ctx F M' σ' H' δ' → Same (hd M H) (hd M' H') → E.nx σ' H') →
  (∀ v d M' σ' H' δ', P.rt d → Ctx F M' σ' H' δ' → Same (hd M H) (hd M' H') → Rep F.K (hd M' H') v d → E.rt v H') →
  (∀ M' σ' H' δ', P.bk δ' → Ctx F M' σ' H' δ' → Same (hd M H) (hd M' H') → E.bk σ' H') →
  (∀ M' σ' H' δ', P.ct δ' → Ctx F M' σ' H' δ' → Same (hd M H) (hd M' H') → E.ct σ' H') → ts E σ H
/-- a target -/
def TgD (F : Fm) (g : TG) (js : List Nat) (x : D) (δ : List SD) (R : List SD → Prop) : Prop := ∀ M σ H v (Q : L2.St → Hp → Prop), Ctx F M σ H δ → Rep F.K (hd M H) v x →
  (∀ σ' H' δ', R δ' → Ctx F M σ' H' δ' → StepB F.mv H H' → (∀ vs : List Nat, (∀ j ∈ js, j ∈ vs) → wipe σ' vs = wipe σ vs) → Q σ' H') → g v σ H Q
def TgsD (F : Fm) (g : TGs) (js : List Nat) (x : List D) (δ : List SD) (R : List SD → Prop) : Prop := ∀ M σ H v (Q : L2.St → Hp → Prop), Ctx F M σ H δ → RepL F.K (hd M H) v x →
  (∀ σ' H' δ', R δ' → Ctx F M σ' H' δ' → StepB F.mv H H' → (∀ vs : List Nat, (∀ j ∈ js, j ∈ vs) → wipe σ' vs = wipe σ vs) → Q σ' H') → g v σ H Q
/-- what is walked -/
def WalkD (F : Fm) (J : It) (M : Addr → Bool) (H : Hp) (xs : List D) : Prop := ∃ (G : Hp → Prop) (Y : Nat → Hp → V → Hp → Prop), Walk J xs.length G Y ∧
  (∀ M2 H2, Same (hd M H) (hd M2 H2) → StepB F.mv F.H0 H2 → G H2) ∧ ∀ M2 H2 i x H3, Al M2 H2 → Same (hd M H) (hd M2 H2) → Y i H2 x H3 → Same H2 H3 ∧ ∃ d, xs[i]? = some d ∧ Rep F.K (hd M2 H3) x d
def ItD (F : Fm) (wi : TI) (δ : List SD) (PX : List D → Prop) : Prop := ∀ M σ H (R : It → Hp → Prop), Ctx F M σ H δ →
  (∀ J xs H', PX xs → Ctx F M σ H' δ → StepB F.mv H H' → WalkD F J M H' xs → R J H') → wi σ H R
section
variable {F : Fm} {δ : List SD} {ta tb tc te : TE} {t u ts : TS} {tt tu : TT} {P : D → Prop} {PX : List D → Prop} {R : PD} {M : Addr → Bool} {σ : L2.St} {H H' : Hp} {g : TG} {gs : TGs} {wi : TI}
theorem Do.imp {R' : PD} (h : Do F t δ R) (h1 : ∀ δ', R.nx δ' → R'.nx δ') (h2 : ∀ d, R.rt d → R'.rt d) (h3 : ∀ δ', R.bk δ' → R'.bk δ') (h4 : ∀ δ', R.ct δ' → R'.ct δ') : Do F t δ R' := fun M σ H E c a b k d =>
  h M σ H E c (fun M' σ' H' δ' p => a M' σ' H' δ' (h1 _ p)) (fun v d M' σ' H' δ' p => b v d M' σ' H' δ' (h2 _ p)) (fun M' σ' H' δ' p => k M' σ' H' δ' (h3 _ p)) (fun M' σ' H' δ' p => d M' σ' H' δ' (h4 _ p))
theorem do_seq (h : Do F t δ { R with nx := fun δ' => Do F u δ' R }) : Do F (tSeq t u) δ R := fun M σ H E c a b k d =>
  h M σ H { E with nx := u E } c (fun M' σ' H' δ' p c' s => p M' σ' H' E c' (fun M2 σ2 H2 δ2 p2 c2 s2 => a M2 σ2 H2 δ2 p2 c2 (s.trans s2)) (fun v x M2 σ2 H2 δ2 p2 c2 s2 => b v x M2 σ2 H2 δ2 p2 c2 (s.trans s2))
    (fun M2 σ2 H2 δ2 p2 c2 s2 => k M2 σ2 H2 δ2 p2 c2 (s.trans s2)) (fun M2 σ2 H2 δ2 p2 c2 s2 => d M2 σ2 H2 δ2 p2 c2 (s.trans s2))) b k d
theorem do_next (p : R.nx δ) : Do F tNext δ R := fun M σ H E c a b k d => a M σ H δ p c (Same.refl _)
theorem do_ret (h : Ev F te δ R.rt) : Do F (tRet te) δ R := fun M σ H E c a b k d =>
  h M σ H _ c fun v x H1 p c1 e r => b v x M σ H1 δ p c1 (hd_step c e) r
theorem do_retN (p : R.rt .non) : Do F tRetN δ R := fun M σ H E c a b k d => b _ _ M σ H δ p c (Same.refl _) .non
theorem do_drop (h : Ev F te δ fun _ => R.nx δ) : Do F (tDrop te) δ R := fun M σ H E c a b k d =>
  h M σ H _ c fun v x H1 p c1 e r => a M σ H1 δ p c1 (hd_step c e)
theorem do_set {i : Nat} (h : Ev F te δ fun x => R.nx (δ.set i (.dat x))) : Do F (tAsg te (gName i)) δ R := fun M σ H E c a b k d =>
  h M σ H _ c fun v x H1 p c1 e r => a M _ H1 _ p (c1.set i r) (hd_step c e)
theorem do_asg {js : List Nat} (h : Ev F te δ fun x => TgD F g js x δ R.nx) : Do F (tAsg te g) δ R := fun M σ H E c a b k d =>
  h M σ H _ c fun v x H1 p c1 e r => p M σ H1 v _ c1 r fun σ2 H2 δ2 p2 c2 e2 _ => a M σ2 H2 δ2 p2 c2 ((hd_step c e).trans (hd_step c1 e2))
theorem do_if (h : EvT F tt δ fun b => (b = true → Do F t δ R) ∧ (b = false → Do F u δ R)) : Do F (tIfS tt t u) δ R := fun M σ H E c a b k d =>
  h M σ H _ c fun y H1 p c1 e => by
    have s := hd_step c e
    cases y with
    | true =>
      exact p.1 rfl M σ H1 E c1 (fun M2 σ2 H2 δ2 p2 c2 s2 => a M2 σ2 H2 δ2 p2 c2 (s.trans s2)) (fun v x M2 σ2 H2 δ2 p2 c2 s2 => b v x M2 σ2 H2 δ2 p2 c2 (s.trans s2))
        (fun M2 σ2 H2 δ2 p2 c2 s2 => k M2 σ2 H2 δ2 p2 c2 (s.trans s2)) (fun M2 σ2 H2 δ2 p2 c2 s2 => d M2 σ2 H2 δ2 p2 c2 (s.trans s2))
    | false =>
      exact p.2 rfl M σ H1 E c1 (fun M2 σ2 H2 δ2 p2 c2 s2 => a M2 σ2 H2 δ2 p2 c2 (s.trans s2)) (fun v x M2 σ2 H2 δ2 p2 c2 s2 => b v x M2 σ2 H2 δ2 p2 c2 (s.trans s2))
        (fun M2 σ2 H2 δ2 p2 c2 s2 => k M2 σ2 H2 δ2 p2 c2 (s.trans s2)) (fun M2 σ2 H2 δ2 p2 c2 s2 => d M2 σ2 H2 δ2 p2 c2 (s.trans s2))
/-! targets -/
theorem wipe_set {j : Nat} {s : Option V} : ∀ {vs : List Nat}, j ∈ vs → wipe (σ.set j s) vs = wipe σ vs
  | [], h => by cases h
  | v :: vs, h => by
    show (wipe (σ.set j s) vs).set v none = (wipe σ vs).set v none
    by_cases hv : j = v
    · subst hv
      have key : ∀ ws : List Nat, (wipe (σ.set j s) ws).set j none = (wipe σ ws).set j none := by
        intro ws
        induction ws with
        | nil =>
          show (σ.set j s).set j none = σ.set j none
          rw [List.set_set]
        | cons w ws ih =>
          show ((wipe (σ.set j s) ws).set w none).set j none = ((wipe σ ws).set w none).set j none
          by_cases hw : w = j
          · subst hw
            rw [List.set_set, List.set_set, ih]
          · rw [List.set_comm _ _ hw, List.set_comm _ _ hw, ih]
      exact key vs
    · have : j ∈ vs := by
        rcases List.mem_cons.mp h with h | h
        · exact absurd h hv
        · exact h
      rw [wipe_set this]
theorem tg_name {i : Nat} {x : D} {Q : List SD → Prop} (p : Q (δ.set i (.dat x))) : TgD F (gName i) [i] x δ Q := fun M σ H v R c r q =>
  q _ H _ p (c.set i r) (StepB.refl _ _) fun vs h => wipe_set (h i (by simp))
theorem tgs_nil {Q : List SD → Prop} (p : Q δ) : TgsD F gNil [] [] δ Q := fun M σ H v R c r q => by
  cases r
  exact ⟨rfl, q σ H δ p c (StepB.refl _ _) fun vs _ => rfl⟩
theorem tgs_cons {js ks : List Nat} {x : D} {xs : List D} {Q : List SD → Prop} (h : TgD F g js x δ fun δ' => TgsD F gs ks xs δ' Q) : TgsD F (gCons g gs) (js ++ ks) (x :: xs) δ Q := fun M σ H v R c r q => by
  cases r with
  | cons r1 r2 =>
    refine ⟨_, _, rfl, h M σ H _ _ c r1 fun σ1 H1 δ1 p1 c1 e1 w1 => ?_⟩
    refine p1 M σ1 H1 _ _ c1 (r2.mono (hd_step c e1)) fun σ2 H2 δ2 p2 c2 e2 w2 => ?_
    refine q σ2 H2 δ2 p2 c2 (e1.trans e2) fun vs h => ?_
    rw [w2 vs fun j hj => h j (List.mem_append_right _ hj), w1 vs fun j hj => h j (List.mem_append_left _ hj)]
theorem tg_tup {n : Nat} {js : List Nat} {xs : List D} {Q : List SD → Prop} (hn : xs.length = n) (h : TgsD F gs js xs δ Q) : TgD F (gTup F.K n gs) js (.tup xs) δ Q := fun M σ H v R c r q => by
  cases r with
  | tup h1 h2 => exact ⟨_, _, rfl, same_tup (same_hd M H) h1, by rw [h2.length, hn], h M σ H _ _ c h2 q⟩
/-! walks -/
theorem walkD_list {F : Fm} {a : Addr} {xs : List V} {ds : List D} (h : hd M H a = some (.lst xs)) (r : RepL F.K (hd M H) xs ds) : WalkD F (Itl F.K a) M H ds := by
  refine ⟨fun H => SqL F.K H a xs, YAt xs, by rw [← r.length]; exact walk_list, fun M2 H2 e _ => SqL.of (hd_of (e _ _ h)).2, fun M2 H2 i x H3 al e y => ?_⟩
  obtain ⟨rfl, y⟩ := y
  obtain ⟨d, h1, h2⟩ := r.getV y
  exact ⟨Same.refl _, d, h1, h2.mono e⟩
theorem it_list (h : Ev F te δ fun d => ∃ ds, d = .lst ds ∧ PX ds) : ItD F (iList F.K te) δ PX := fun M σ H R c q =>
  h M σ H _ c fun v d H1 p c1 e r => by
    obtain ⟨ds, rfl, p⟩ := p
    cases r with
    | lst h1 h2 => exact ⟨_, rfl, ⟨_, SqL.of (hd_of h1).2⟩, q _ ds H1 p c1 e (walkD_list h1 h2)⟩
theorem walkD_tup {F : Fm} {a : Addr} {xs : List V} {ds : List D} (h : SqT F.K (hd M H) a xs) (r : RepL F.K (hd M H) xs ds) : WalkD F (Itt F.K a) M H ds := by
  refine ⟨fun H => SqT F.K H a xs, YAt xs, by rw [← r.length]; exact walk_tup, fun M2 H2 e _ => same_tup (e.trans (same_hd M2 H2)) h, fun M2 H2 i x H3 al e y => ?_⟩
  obtain ⟨rfl, y⟩ := y
  obtain ⟨d, h1, h2⟩ := r.getV y
  exact ⟨Same.refl _, d, h1, h2.mono e⟩
theorem it_tup (h : Ev F te δ fun d => ∃ ds, d = .tup ds ∧ PX ds) : ItD F (iTup F.K te) δ PX := fun M σ H R c q =>
  h M σ H _ c fun v d H1 p c1 e r => by
    obtain ⟨ds, rfl, p⟩ := p
    cases r with
    | tup h1 h2 => exact ⟨_, rfl, ⟨_, same_tup (same_hd M H1) h1⟩, q _ ds H1 p c1 e (walkD_tup h1 h2)⟩
/-- lo, lo + 1, .. -/
def upto (lo : Int) (n : Nat) : List D := (List.range n).map fun i => .int (lo + (i : Nat))
theorem upto_len {lo : Int} {n : Nat} : (upto lo n).length = n := by simp [upto]
theorem upto_get {lo : Int} {n i : Nat} {d : D} (h : (upto lo n)[i]? = some d) : i < n ∧ d = .int (lo + (i : Nat)) := by
  have hi := (List.getElem?_eq_some_iff.mp h).1
  rw [upto_len] at hi
  refine ⟨hi, ?_⟩
  unfold upto at h
  rw [List.getElem?_map, List.getElem?_range hi] at h
  exact (Option.some.inj h).symm
theorem walkD_range {F : Fm} {lo : Int} {n : Nat} : WalkD F (Itr lo n) M H (upto lo n) := by
  refine ⟨fun _ => True, fun i H x H' => i < n ∧ H' = H ∧ x = .int (lo + i), ?_, fun _ _ _ _ => trivial, fun M2 H2 i x H3 al e y => ?_⟩
  · rw [upto_len]
    exact ⟨fun _ _ hi _ => hi, fun _ _ => Nat.le_refl _, fun _ _ _ _ hi _ y => ⟨hi, y⟩⟩
  · obtain ⟨hi, rfl, rfl⟩ := y
    refine ⟨Same.refl _, .int (lo + (i : Nat)), ?_, .int _⟩
    unfold upto
    rw [List.getElem?_map, List.getElem?_range hi]
    rfl
theorem it_range1 {ta : TA} (h : EvA F ta δ fun l => ∃ n : Int, l = [.int n] ∧ -1000000 ≤ n ∧ n ≤ 1000000 ∧ PX (upto 0 n.toNat)) : ItD F (iRng1 ta) δ PX := fun M σ H R c q =>
  h M σ H _ c fun vs ds H1 p c1 e r => by
    obtain ⟨n, rfl, h1, h2, p⟩ := p
    cases r with
    | cons r1 r2 =>
      cases r1
      cases r2
      exact ⟨n, rfl, by omega, by omega, q _ _ H1 p c1 e walkD_range⟩
/-- pairs -/
def pairs (xs ys : List D) : List D := (xs.zip ys).map fun p => .tup [p.1, p.2]
theorem pair_ok {K : PySem.W.Frag} {M2 : Addr → Bool} {H2 : Hp} {T : Addr} {x y : V} {d e : D} (al : Al M2 H2) (hT : H2 T = none) (r1 : Rep K (hd M2 H2) x d) (r2 : Rep K (hd M2 H2) y e) : Rep K (hd M2 (upd H2 T (.tup [x, y]))) (.ref T) (.tup [d, e]) :=
  .tup (SqT.of (hd_new al hT)) (.cons (r1.mono (same_hdM (same_new hT))) (.cons (r2.mono (same_hdM (same_new hT))) .nil))
theorem walkD_zip {F : Fm} {a b : Addr} {xs ys : List V} {ds es : List D} (h : hd M H a = some (.lst xs)) (r : RepL F.K (hd M H) xs ds) (h' : hd M H b = some (.lst ys)) (r' : RepL F.K (hd M H) ys es) : WalkD F (Itz F.K a b) M H (pairs ds es) := by
  refine ⟨_, _, walk_zip (xs := xs) (ys := ys) ?_, fun M2 H2 e _ => ⟨SqL.of (hd_of (e _ _ h)).2, SqL.of (hd_of (e _ _ h')).2⟩, fun M2 H2 i x H3 al e y => ?_⟩
  · unfold pairs
    rw [List.length_map, List.length_zip, r.length, r'.length]
  · obtain ⟨T, v, w, rfl, hT, rfl, h1, h2⟩ := y
    obtain ⟨d, e1, r1⟩ := r.getV h1
    obtain ⟨f, e2, r2⟩ := r'.getV h2
    refine ⟨same_new hT, .tup [d, f], ?_, pair_ok al hT (r1.mono e) (r2.mono e)⟩
    unfold pairs
    rw [List.getElem?_map, List.getElem?_zip_eq_some (z := (d, f)) |>.mpr ⟨e1, e2⟩]
    rfl
theorem walk_zipT {K : PySem.W.Frag} {a b : Addr} {xs ys : List V} {n : Nat} (hn : n = min xs.length ys.length) : Walk (ItzT K a b) n (fun H => SqT K H a xs ∧ SqT K H b ys) (YPair (fun i => xs[i]?) (fun i => ys[i]?)) := by
  subst hn
  refine ⟨fun i _ hi q => ?_, fun _ q => ⟨xs, ys, q.1, q.2, by omega⟩, fun i H v H' _ q y => ?_⟩
  · have h1 : i < xs.length := by omega
    have h2 : i < ys.length := by omega
    exact ⟨xs, ys, xs[i], ys[i], q.1, q.2, by simp [h1], by simp [h2]⟩
  · obtain ⟨T, x, z, h1, h2, h3, h4, h5⟩ := y
    exact ⟨T, x, z, h1, h2, h3, h4 xs q.1, h5 ys q.2⟩
theorem walkD_zipT {F : Fm} {a b : Addr} {xs ys : List V} {ds es : List D} (h : SqT F.K (hd M H) a xs) (r : RepL F.K (hd M H) xs ds) (h' : SqT F.K (hd M H) b ys) (r' : RepL F.K (hd M H) ys es) : WalkD F (ItzT F.K a b) M H (pairs ds es) := by
  refine ⟨_, _, walk_zipT (xs := xs) (ys := ys) ?_, fun M2 H2 e _ => ⟨same_tup (e.trans (same_hd M2 H2)) h, same_tup (e.trans (same_hd M2 H2)) h'⟩, fun M2 H2 i x H3 al e y => ?_⟩
  · unfold pairs
    rw [List.length_map, List.length_zip, r.length, r'.length]
  · obtain ⟨T, v, w, rfl, hT, rfl, h1, h2⟩ := y
    obtain ⟨d, e1, r1⟩ := r.getV h1
    obtain ⟨f, e2, r2⟩ := r'.getV h2
    refine ⟨same_new hT, .tup [d, f], ?_, pair_ok al hT (r1.mono e) (r2.mono e)⟩
    unfold pairs
    rw [List.getElem?_map, List.getElem?_zip_eq_some (z := (d, f)) |>.mpr ⟨e1, e2⟩]
    rfl
/-- of two lists, of two tuples -/
theorem it_zipA {ta : TA} (h : EvA F ta δ fun l => ∃ xs ys, (l = [.lst xs, .lst ys] ∨ l = [.tup xs, .tup ys]) ∧ PX (pairs xs ys)) : ItD F (iZipA F.K ta) δ PX := fun M σ H R c q =>
  h M σ H _ c fun vs ds H1 p c1 e r => by
    obtain ⟨xs, ys, hl, p⟩ := p
    rcases hl with rfl | rfl
    · cases r with
      | cons r1 r2 =>
        cases r2 with
        | cons r2 r3 =>
          cases r3
          cases r1 with
          | lst h1 h2 =>
            cases r2 with
            | lst h3 h4 => exact ⟨_, _, _, _, rfl, .inl ⟨SqL.of (hd_of h1).2, SqL.of (hd_of h3).2, q _ _ H1 p c1 e (walkD_zip h1 h2 h3 h4)⟩⟩
    · cases r with
      | cons r1 r2 =>
        cases r2 with
        | cons r2 r3 =>
          cases r3
          cases r1 with
          | tup h1 h2 =>
            cases r2 with
            | tup h3 h4 => exact ⟨_, _, _, _, rfl, .inr ⟨same_tup (same_hd M H1) h1, same_tup (same_hd M H1) h3, q _ _ H1 p c1 e (walkD_zipT h1 h2 h3 h4)⟩⟩
/-- enumerate -/
def numbered (xs : List D) : List D := (List.range xs.length).map fun i => .tup [.int (i : Nat), xs.getD i .non]
/-! for -/
theorem do_for {js : List Nat} (hw : ItD F wi δ PX) (I : List D → Nat → List SD → Prop) (h0 : ∀ xs, PX xs → I xs 0 δ)
    (hs : ∀ xs i x δ', PX xs → xs[i]? = some x → I xs i δ' → TgD F g js x δ' fun δ2 => Do F t δ2 { nx := I xs (i + 1), ct := I xs (i + 1), bk := R.nx, rt := R.rt })
    (he : ∀ xs δ', PX xs → I xs xs.length δ' → R.nx δ') : Do F (tFor wi g t) δ R := fun M σ H E c a b k d => by
  refine hw M σ H _ c fun J xs H1 px c1 e1 wd => ?_
  obtain ⟨G, Y, w, wg, wy⟩ := wd
  have s1 := hd_step c e1
  refine for_it w (fun i σ' H' => ∃ M' δ', I xs i δ' ∧ Ctx F M' σ' H' δ' ∧ Same (hd M H1) (hd M' H')) ⟨M, δ, h0 xs px, c1, Same.refl _⟩ (fun i σ' H' _ ⟨M', δ', _, c', s⟩ => wg M' H' s c'.fr) ?_ ?_
  · rintro i x σ' H' H2 hi ⟨M', δ', hI, c', s⟩ y
    obtain ⟨s2, dx, h1, r⟩ := wy M' H' i x H2 c'.al s y
    have c2 := c'.same s2
    refine hs xs i dx δ' px h1 hI M' σ' H2 x _ c2 r fun σ3 H3 δ3 p3 c3 e3 _ => ?_
    have s3 : Same (hd M H1) (hd M' H3) := s.trans ((same_hdM s2).trans (hd_step c2 e3))
    refine p3 M' σ3 H3 _ c3 (fun M4 σ4 H4 δ4 p4 c4 s4 => ⟨M4, δ4, p4, c4, s3.trans s4⟩) (fun v y M4 σ4 H4 δ4 p4 c4 s4 r4 => b v y M4 σ4 H4 δ4 p4 c4 ((s1.trans s3).trans s4) r4)
      (fun M4 σ4 H4 δ4 p4 c4 s4 => a M4 σ4 H4 δ4 p4 c4 ((s1.trans s3).trans s4)) (fun M4 σ4 H4 δ4 p4 c4 s4 => ⟨M4, δ4, p4, c4, s3.trans s4⟩)
  · rintro σ' H' ⟨M', δ', hI, c', s⟩
    exact a M' σ' H' δ' (he xs δ' px hI) c' (s1.trans s)
end

/-! ### a list of one's own -/
def hid (M : Addr → Bool) (p : Addr) : Addr → Bool := fun a => if a = p then true else M a
theorem hid_same {M : Addr → Bool} {p : Addr} : hid M p p = true := if_pos rfl
theorem hid_ne {M : Addr → Bool} {p a : Addr} (h : a ≠ p) : hid M p a = M a := if_neg h
theorem hid_le {M : Addr → Bool} {p : Addr} : ∀ a, M a = true → hid M p a = true := fun a h => by
  unfold hid
  split
  · rfl
  · exact h
def shw (M : Addr → Bool) (p : Addr) : Addr → Bool := fun a => if a = p then false else M a
theorem shw_same {M : Addr → Bool} {p : Addr} : shw M p p = false := if_pos rfl
theorem shw_ne {M : Addr → Bool} {p a : Addr} (h : a ≠ p) : shw M p a = M a := if_neg h
theorem shw_le {M : Addr → Bool} {p : Addr} : ∀ a, shw M p a = true → M a = true := fun a h => by
  by_cases e : a = p
  · subst e
    rw [shw_same] at h
    cases h
  · rw [shw_ne e] at h
    exact h
theorem hd_upd {M : Addr → Bool} {H : Hp} {p : Addr} {o : HO} (h : M p = true) : hd M (upd H p o) = hd M H := by
  funext a
  unfold hd
  by_cases e : a = p
  · subst e
    rw [h, if_pos rfl, if_pos rfl]
  · rw [upd_ne e]
section
variable {F : Fm} {M : Addr → Bool} {σ : L2.St} {H H' : Hp} {δ : List SD}
theorem set_key {i j : Nat} {x y : SD} (hx : (δ.set i y)[j]? = some x) : (i = j ∧ x = y ∧ i < δ.length) ∨ (i ≠ j ∧ δ[j]? = some x) := by
  by_cases hj : i = j
  · subst hj
    rw [List.getElem?_set] at hx
    rw [if_pos rfl] at hx
    split at hx
    · exact .inl ⟨rfl, (Option.some.inj hx).symm, by assumption⟩
    · cases hx
  · rw [List.getElem?_set_ne hj] at hx
    exact .inr ⟨hj, hx⟩
/-- p, which no own slot is, is shown no more | shown again -/
theorem nx_hid {M : Addr → Bool} {H : Hp} {p : Addr} {o : HO} (n : NX M H) (hp : H p = none) (nx : ∀ c q, o ≠ LamX.CodeO c q) : NX (hid M p) (upd H p o) := fun a q m z => by
  by_cases e : a = p
  · subst e
    rw [upd_same] at z
    exact nx a q (Option.some.inj z)
  · rw [hid_ne e] at m
    rw [upd_ne e] at z
    exact n a q m z
theorem Ctx.hide (c : Ctx F M σ H δ) {p : Addr} (hp : H p = none) {o : HO} (nx : ∀ c q, o ≠ LamX.CodeO c q := by (intro c q z; unfold LamX.CodeO at z; cases z)) : Ctx F (hid M p) σ (upd H p o) δ := by
  have s : Same (hd M H) (hd (hid M p) (upd H p o)) := fun a u e => by
    obtain ⟨m, h⟩ := hd_of e
    have n : a ≠ p := ne_of_none h hp
    exact hd_at (by rw [hid_ne n]; exact m) (by rw [upd_ne n]; exact h)
  refine ⟨fun a m => ?_, c.al0, fun a m => hid_le a (c.m0 a m), fun a u n h => (same_new hp) a u (c.fr a u n h), ⟨fun b z => (c.bg.1 b z).imp id fun ⟨h1, h2⟩ => ⟨h1.mono (same_new hp), h2⟩, fun r h => (c.bg.2 r h).imp id fun t => ⟨t.1.ext (same_new hp), nx_hid t.2 hp nx⟩⟩, c.ln, fun i x hx => ?_, c.dj, c.oh⟩
  · by_cases e : a = p
    · subst e
      exact ⟨o, upd_same⟩
    · rw [hid_ne e] at m
      obtain ⟨u, h⟩ := c.al a m
      exact ⟨u, by rw [upd_ne e]; exact h⟩
  · obtain ⟨y, h1, h2⟩ := c.sl i x hx
    refine ⟨y, h1, ?_⟩
    cases x with
    | un => trivial
    | dat d =>
      obtain ⟨v, e, r⟩ := h2
      exact ⟨v, e, r.mono s⟩
    | own q ds =>
      obtain ⟨e, m, vs, h3, r⟩ := h2
      exact ⟨e, hid_le q m, vs, same_new hp _ _ h3, r.mono s⟩
    | bag => exact h2
    | sq ds =>
      obtain ⟨q, vs, g1, g2, g3, g4⟩ := h2
      exact ⟨q, vs, g1, g2, g3, g4.mono s⟩
    | sl ds =>
      obtain ⟨q, vs, g1, g2, g3, g4⟩ := h2
      exact ⟨q, vs, g1, g2, g3, g4.mono s⟩
    | oll q qs => exact ⟨h2.1, h2.2.mono (fun a m _ => hid_le a m) (fun a o _ _ _ h => same_new hp a o h) s⟩
    | sto d Ω => exact ⟨h2.1.imp fun v h => ⟨h.1, h.2.mono s⟩, h2.2.1, h2.2.2.mono (fun q _ m => hid_le q.1 m) (fun q _ o _ h => same_new hp q.1 o h) s⟩
    | stR d Ω => exact ⟨h2.1.imp fun v h => ⟨h.1, h.2.mono s⟩, h2.2.1, h2.2.2.mono (fun q _ m => hid_le q.1 m) (fun q _ o _ h => same_new hp q.1 o h) s⟩
/-- p is no slot's own -/
def NoOw (δ : List SD) (p : Addr) : Prop := ∀ (j : Nat) (x : SD), δ[j]? = some x → p ∉ x.ads
theorem ads_ne {Ω : List (Addr × OD)} {p : Addr} {d : D} (h : p ∉ (SD.sto d Ω).ads) : ∀ q ∈ Ω, q.1 ≠ p := fun q hq e => h (e ▸ List.mem_map_of_mem hq)
theorem Ctx.show' (c : Ctx F (hid M p) σ H δ) (hp : M p = false) (h0 : F.H0 p = none) (no : NoOw δ p) : Ctx F M σ H δ := by
  have n0 : ∀ a, F.M0 a = true → a ≠ p := fun a m e => by
    subst e
    obtain ⟨o, h⟩ := c.al0 _ m
    rw [h0] at h
    cases h
  refine ⟨fun a m => c.al a (hid_le a m), c.al0, fun a m => by rw [← hid_ne (M := M) (n0 a m)]; exact c.m0 a m, c.fr, ⟨c.bg.1, fun r h => (c.bg.2 r h).imp id fun t => ⟨t.1, fun a x m => t.2 a x (hid_le a m)⟩⟩, c.ln, fun i x hx => ?_, c.dj, c.oh⟩
  obtain ⟨y, h1, h2⟩ := c.sl i x hx
  refine ⟨y, h1, ?_⟩
  cases x with
  | un => trivial
  | dat d =>
    obtain ⟨v, e, r⟩ := h2
    exact ⟨v, e, r.mono (same_hd_le hid_le)⟩
  | own q ds =>
    obtain ⟨e, m, vs, h3, r⟩ := h2
    have n : q ≠ p := fun z => by
      subst z
      exact no i _ hx own_ads
    rw [hid_ne n] at m
    exact ⟨e, m, vs, h3, r.mono (same_hd_le hid_le)⟩
  | bag => exact h2
  | sq ds =>
    obtain ⟨q, vs, g1, g2, g3, g4⟩ := h2
    exact ⟨q, vs, g1, g2, g3, g4.mono (same_hd_le hid_le)⟩
  | sl ds =>
    obtain ⟨q, vs, g1, g2, g3, g4⟩ := h2
    exact ⟨q, vs, g1, g2, g3, g4.mono (same_hd_le hid_le)⟩
  | oll q qs => exact ⟨h2.1, h2.2.mono (fun a m n => by rw [hid_ne (show a ≠ p from fun e => n (by rw [e]; exact h0))] at m; exact m) (fun _ _ _ _ _ h => h) (same_hd_le hid_le)⟩
  | sto d Ω => exact ⟨h2.1.imp fun v h => ⟨h.1, h.2.mono (same_hd_le hid_le)⟩, h2.2.1, h2.2.2.mono (fun q hq m => by rw [hid_ne (ads_ne (no i _ hx) q hq)] at m; exact m) (fun _ _ _ _ h => h) (same_hd_le hid_le)⟩
  | stR d Ω => exact ⟨h2.1.imp fun v h => ⟨h.1, h.2.mono (same_hd_le hid_le)⟩, h2.2.1, h2.2.2.mono (fun q hq m => by rw [hid_ne (show q.1 ≠ p from fun e => (h2.2.1 q hq).1 (by rw [e]; exact h0))] at m; exact m) (fun _ _ _ _ h => h) (same_hd_le hid_le)⟩
/-- a slot takes a list of its own -/
theorem Ctx.setOwn (c : Ctx F M σ H δ) (i : Nat) {p : Addr} {vs : HO} {ds : OD} (m : M p = true) (h : H p = some vs) (r : RepO F.K (hd M H) p vs ds) (h0 : F.H0 p = none) (hb : ¬ F.mv p)
    (no : ∀ (j : Nat) (x : SD), i ≠ j → δ[j]? = some x → p ∉ x.ads) : Ctx F M (σ.set i (some (.ref p))) H (δ.set i (.own p ds)) := by
  refine ⟨c.al, c.al0, c.m0, c.fr, c.bg, by rw [List.length_set, List.length_set, c.ln], fun j x hx => ?_, fun j k x y q h1 h2 hp hq => ?_, fun j x q h hp => ?_⟩
  · rcases set_key hx with ⟨rfl, rfl, hl⟩ | ⟨hj, hx⟩
    · exact ⟨_, by rw [List.getElem?_set_self (by rw [c.ln]; exact hl)], rfl, m, vs, h, r⟩
    · rw [List.getElem?_set_ne hj]
      exact c.sl j x hx
  · rcases set_key h1 with ⟨rfl, z, _⟩ | ⟨hj, h1⟩
    · subst z
      have e : q = p := List.mem_singleton.mp hp
      rcases set_key h2 with ⟨rfl, _, _⟩ | ⟨hk, h2⟩
      · rfl
      · exact absurd (e ▸ hq) (no k _ hk h2)
    · rcases set_key h2 with ⟨rfl, z, _⟩ | ⟨hk, h2⟩
      · subst z
        have e : q = p := List.mem_singleton.mp hq
        exact absurd (e ▸ hp) (no j _ hj h1)
      · exact c.dj j k x y q h1 h2 hp hq
  · rcases set_key h with ⟨rfl, z, _⟩ | ⟨hj, h⟩
    · subst z
      have e : q = p := List.mem_singleton.mp hp
      rw [e]
      exact ⟨h0, hb⟩
    · exact c.oh j x q h hp
theorem nx_upd {M : Addr → Bool} {H : Hp} {p : Addr} {o : HO} (n : NX M H) (nx : ∀ c q, o ≠ LamX.CodeO c q) : NX M (upd H p o) := fun a q m z => by
  by_cases e : a = p
  · subst e
    rw [upd_same] at z
    exact nx a q (Option.some.inj z)
  · rw [upd_ne e] at z
    exact n a q m z
/-- a hidden list that no slot owns is changed -/
theorem Ctx.poke (c : Ctx F M σ H δ) {p : Addr} {xs ys : HO} (m : M p = true) (hp : H p = some xs) (h0 : F.H0 p = none) (hb : ¬ F.mv p) (no : NoOw δ p) (nx : ∀ c q, xs ≠ LamX.CodeO c q := by (intro c q z; unfold LamX.CodeO at z; cases z)) (ny : ∀ c q, ys ≠ LamX.CodeO c q := by (intro c q z; unfold LamX.CodeO at z; cases z)) : Ctx F M σ (upd H p ys) δ := by
  have hm : hd M (upd H p ys) = hd M H := hd_upd m
  have bg : ∀ b, F.B = some b → F.M0 b = true ∧ BagAt (upd H p ys) b F.C0 ∧ ∃ o, F.H0 F.C0 = some o := fun b z => by
    obtain ⟨g0, g1, g2⟩ := c.bg.1 b z
    obtain ⟨ns, k, z1, z2, z3, q1, q2, q3, q4⟩ := g1
    have n1 : b ≠ p := fun e => hb (.inl (e ▸ z))
    have n2 : F.C0 ≠ p := fun e => by
      rw [← e] at h0
      obtain ⟨o, g3⟩ := g2
      rw [h0] at g3
      cases g3
    exact ⟨g0, ⟨ns, k, z1, z2, z3, by rw [upd_ne n1]; exact q1, q2, by rw [upd_ne n2]; exact q3, q4⟩, g2⟩
  refine ⟨fun a q => ?_, c.al0, c.m0, fun a o n h => ?_, ⟨bg, fun r h => (c.bg.2 r h).imp id fun t => ⟨tabS_step t.1 (fun ps e => by rw [upd_ne (fun z : r.1 = p => hb (.inr ⟨r, h, z⟩))]; exact e) fun x e => by rw [upd_ne (fun z => nx _ _ (Option.some.inj (hp.symm.trans (z ▸ e))))]; exact e, nx_upd t.2 ny⟩⟩, c.ln, fun j x hx => ?_, c.dj, c.oh⟩
  · by_cases e : a = p
    · subst e
      exact ⟨_, upd_same⟩
    · rw [upd_ne e]
      exact c.al a q
  · have n2 : a ≠ p := fun e => by
      subst e
      rw [h0] at h
      cases h
    rw [upd_ne n2]
    exact c.fr a o n h
  · obtain ⟨y, g1, g2⟩ := c.sl j x hx
    refine ⟨y, g1, ?_⟩
    cases x with
    | un => trivial
    | dat d =>
      obtain ⟨v, e, r⟩ := g2
      exact ⟨v, e, by rw [hm]; exact r⟩
    | own q fs =>
      obtain ⟨e, mq, us, g3, r⟩ := g2
      have n : q ≠ p := fun z => by
        subst z
        exact no j _ hx own_ads
      exact ⟨e, mq, us, by rw [upd_ne n]; exact g3, by rw [hm]; exact r⟩
    | bag => exact g2
    | sq ds =>
      obtain ⟨q, vs, k1, k2, k3, k4⟩ := g2
      exact ⟨q, vs, k1, k2, k3, by rw [hm]; exact k4⟩
    | sl ds =>
      obtain ⟨q, vs, k1, k2, k3, k4⟩ := g2
      exact ⟨q, vs, k1, k2, k3, by rw [hm]; exact k4⟩
    | oll q qs => exact ⟨g2.1, g2.2.mono (fun _ m _ => m) (fun a o _ _ n h => by rw [upd_ne (show a ≠ p from fun e => n (by rw [e]; exact h0))]; exact h) (by rw [hm]; exact Same.refl _)⟩
    | sto d Ω => exact ⟨by rw [hm]; exact g2.1, g2.2.1, g2.2.2.mono (fun _ _ m => m) (fun q hq o _ h => by rw [upd_ne (ads_ne (no j _ hx) q hq)]; exact h) (by rw [hm]; exact Same.refl _)⟩
    | stR d Ω => exact ⟨by rw [hm]; exact g2.1, g2.2.1, g2.2.2.mono (fun _ _ m => m) (fun q hq o _ h => by rw [upd_ne (show q.1 ≠ p from fun e => (g2.2.1 q hq).1 (by rw [e]; exact h0))]; exact h) (by rw [hm]; exact Same.refl _)⟩
/-- the own list is changed -/
theorem Ctx.put (c : Ctx F M σ H δ) {i : Nat} {p : Addr} {ds es : OD} {vs : HO} (hi : δ[i]? = some (.own p ds)) (r : RepO F.K (hd M H) p vs es) : Ctx F M σ (upd H p vs) (δ.set i (.own p es)) := by
  obtain ⟨y, h1, hy, m, ws, h3, r0⟩ := c.sl i _ hi
  subst hy
  obtain ⟨h0, hb⟩ := c.oh1 hi
  have nx := r0.code
  have ny := r.code
  have hm : hd M (upd H p vs) = hd M H := hd_upd m
  have bg : ∀ b, F.B = some b → F.M0 b = true ∧ BagAt (upd H p vs) b F.C0 ∧ ∃ o, F.H0 F.C0 = some o := fun b z => by
    obtain ⟨g0, g1, g2⟩ := c.bg.1 b z
    obtain ⟨ns, k, z1, z2, z3, q1, q2, q3, q4⟩ := g1
    have n1 : b ≠ p := fun e => hb (.inl (e ▸ z))
    have n2 : F.C0 ≠ p := fun e => by
      rw [← e] at h0
      obtain ⟨o, g3⟩ := g2
      rw [h0] at g3
      cases g3
    exact ⟨g0, ⟨ns, k, z1, z2, z3, by rw [upd_ne n1]; exact q1, q2, by rw [upd_ne n2]; exact q3, q4⟩, g2⟩
  refine ⟨fun a q => ?_, c.al0, c.m0, fun a o n h => ?_, ⟨bg, fun r h => (c.bg.2 r h).imp id fun t => ⟨tabS_step t.1 (fun ps e => by rw [upd_ne (fun z : r.1 = p => hb (.inr ⟨r, h, z⟩))]; exact e) fun x e => by rw [upd_ne (fun z => nx _ _ (Option.some.inj (h3.symm.trans (z ▸ e))))]; exact e, nx_upd t.2 ny⟩⟩, by rw [List.length_set, c.ln], fun j x hx => ?_, fun j k x y q h1 h2 hp hq => ?_, fun j x q h hp => ?_⟩
  · by_cases e : a = p
    · subst e
      exact ⟨_, upd_same⟩
    · rw [upd_ne e]
      exact c.al a q
  · have n2 : a ≠ p := fun e => by
      subst e
      rw [h0] at h
      cases h
    rw [upd_ne n2]
    exact c.fr a o n h
  · rcases set_key hx with ⟨rfl, rfl, hl⟩ | ⟨hj, hx2⟩
    · exact ⟨_, h1, rfl, m, vs, upd_same, by rw [hm]; exact r⟩
    · obtain ⟨y, g1, g2⟩ := c.sl j x hx2
      refine ⟨y, g1, ?_⟩
      cases x with
      | un => trivial
      | dat d =>
        obtain ⟨v, e, r⟩ := g2
        exact ⟨v, e, by rw [hm]; exact r⟩
      | own q fs =>
        obtain ⟨e, mq, us, g3, r⟩ := g2
        have n : q ≠ p := fun z => by
          subst z
          exact hj (c.dj1 hi hx2)
        exact ⟨e, mq, us, by rw [upd_ne n]; exact g3, by rw [hm]; exact r⟩
      | bag => exact g2
      | sq ds =>
        obtain ⟨q, vs, k1, k2, k3, k4⟩ := g2
        exact ⟨q, vs, k1, k2, k3, by rw [hm]; exact k4⟩
      | sl ds =>
        obtain ⟨q, vs, k1, k2, k3, k4⟩ := g2
        exact ⟨q, vs, k1, k2, k3, by rw [hm]; exact k4⟩
      | oll q qs => exact ⟨g2.1, g2.2.mono (fun _ m _ => m) (fun a o _ _ n h => by rw [upd_ne (show a ≠ p from fun e => n (by rw [e]; exact h0))]; exact h) (by rw [hm]; exact Same.refl _)⟩
      | sto d Ω => exact ⟨by rw [hm]; exact g2.1, g2.2.1, g2.2.2.mono (fun _ _ m => m) (fun q hq o _ h => by rw [upd_ne (ads_ne (fun z => hj (c.dj i j _ _ p hi hx2 own_ads z)) q hq)]; exact h) (by rw [hm]; exact Same.refl _)⟩
      | stR d Ω => exact ⟨by rw [hm]; exact g2.1, g2.2.1, g2.2.2.mono (fun _ _ m => m) (fun q hq o _ h => by rw [upd_ne (show q.1 ≠ p from fun e => (g2.2.1 q hq).1 (by rw [e]; exact h0))]; exact h) (by rw [hm]; exact Same.refl _)⟩
  · have own : ∀ {j : Nat} {x : SD} {q : Addr}, (δ.set i (.own p es))[j]? = some x → q ∈ x.ads → ∃ y, δ[j]? = some y ∧ q ∈ y.ads := fun {j x q} h hq => by
      rcases set_key h with ⟨rfl, z, _⟩ | ⟨_, h⟩
      · subst z
        exact ⟨_, hi, hq⟩
      · exact ⟨x, h, hq⟩
    obtain ⟨x', g1, g2⟩ := own h1 hp
    obtain ⟨y', g3, g4⟩ := own h2 hq
    exact c.dj j k x' y' q g1 g3 g2 g4
  · rcases set_key h with ⟨rfl, z, _⟩ | ⟨hj, h⟩
    · subst z
      exact c.oh _ _ q hi hp
    · exact c.oh j x q h hp
/-- the own list is looked at as data from here on -/
theorem Ctx.freeze (c : Ctx F M σ H δ) {i : Nat} {p : Addr} {ds : OD} (hi : δ[i]? = some (.own p ds)) : Ctx F (shw M p) σ H (δ.set i (.dat ds.d)) := by
  obtain ⟨y, h1, hy, m, ws, h3, r0⟩ := c.sl i _ hi
  subst hy
  obtain ⟨h0, hb⟩ := c.oh1 hi
  have s : Same (hd M H) (hd (shw M p) H) := same_hd_le shw_le
  have n0 : ∀ a, F.M0 a = true → a ≠ p := fun a mm e => by
    subst e
    obtain ⟨o, h⟩ := c.al0 _ mm
    rw [h0] at h
    cases h
  refine ⟨fun a q => c.al a (shw_le a q), c.al0, fun a q => by rw [shw_ne (n0 a q)]; exact c.m0 a q, c.fr, ⟨c.bg.1, fun r h => (c.bg.2 r h).imp id fun t => ⟨t.1, fun a x m => t.2 a x (shw_le a m)⟩⟩, by rw [List.length_set, c.ln], fun j x hx => ?_, fun j k x y q h1 h2 hp hq => ?_, fun j x q h hp => ?_⟩
  · rcases set_key hx with ⟨rfl, rfl, hl⟩ | ⟨hj, hx2⟩
    · exact ⟨_, h1, _, rfl, (r0.mono s).rep (hd_at shw_same h3)⟩
    · obtain ⟨y, g1, g2⟩ := c.sl j x hx2
      refine ⟨y, g1, ?_⟩
      cases x with
      | un => trivial
      | dat d =>
        obtain ⟨v, e, r⟩ := g2
        exact ⟨v, e, r.mono s⟩
      | own q fs =>
        obtain ⟨e, mq, us, g3, r⟩ := g2
        have n : q ≠ p := fun z => by
          subst z
          exact hj (c.dj1 hi hx2)
        exact ⟨e, by rw [shw_ne n]; exact mq, us, g3, r.mono s⟩
      | bag => exact g2
      | sq ds =>
        obtain ⟨q, vs, k1, k2, k3, k4⟩ := g2
        exact ⟨q, vs, k1, k2, k3, k4.mono s⟩
      | sl ds =>
        obtain ⟨q, vs, k1, k2, k3, k4⟩ := g2
        exact ⟨q, vs, k1, k2, k3, k4.mono s⟩
      | oll q qs => exact ⟨g2.1, g2.2.mono (fun a m n => by rw [shw_ne (show a ≠ p from fun e => n (by rw [e]; exact h0))]; exact m) (fun _ _ _ _ _ h => h) s⟩
      | sto d Ω => exact ⟨g2.1.imp fun v h => ⟨h.1, h.2.mono s⟩, g2.2.1, g2.2.2.mono (fun q hq m => by rw [shw_ne (ads_ne (fun z => hj (c.dj i j _ _ p hi hx2 own_ads z)) q hq)]; exact m) (fun _ _ _ _ h => h) s⟩
      | stR d Ω => exact ⟨g2.1.imp fun v h => ⟨h.1, h.2.mono s⟩, g2.2.1, g2.2.2.mono (fun q hq m => by rw [shw_ne (show q.1 ≠ p from fun e => (g2.2.1 q hq).1 (by rw [e]; exact h0))]; exact m) (fun _ _ _ _ h => h) s⟩
  · rcases set_key h1 with ⟨rfl, z, _⟩ | ⟨hj, h1⟩
    · subst z; cases hp
    rcases set_key h2 with ⟨rfl, z, _⟩ | ⟨hk, h2⟩
    · subst z; cases hq
    exact c.dj j k x y q h1 h2 hp hq
  · rcases set_key h with ⟨rfl, z, _⟩ | ⟨hj, h⟩
    · subst z; cases hp
    · exact c.oh j x q h hp
end
/-- an expression that makes a new list -/
def EvN (F : Fm) (te : TE) (δ : List SD) (P : List D → Prop) : Prop := ∀ M σ H (Q : VK), Ctx F M σ H δ →
  (∀ p vs ds H', P ds → Ctx F (hid M p) σ H' δ → H p = none → F.H0 p = none → ¬ F.mv p → NoOw δ p → StepB F.mv H H' → H' p = some (.lst vs) → RepL F.K (hd (hid M p) H') vs ds → Q (.ref p) H') → te σ H Q
section
variable {F : Fm} {δ : List SD} {ta tb tc te : TE} {t u ts : TS} {tt tu : TT} {P : List D → Prop} {PX : List D → Prop} {R : PD} {M : Addr → Bool} {σ : L2.St} {H H' : Hp} {g : TG} {gs : TGs} {wi : TI}
theorem Ctx.nob (c : Ctx F M σ H δ) {p : Addr} (hp : H p = none) : ¬ F.mv p := fun z => by
  rcases z with z | z
  case inr =>
    obtain ⟨r, z, e⟩ := z
    obtain ⟨_, ⟨ps, h, _⟩, _⟩ := c.bg.2 r z
    rw [e, hp] at h
    cases h
  obtain ⟨_, h, _⟩ := c.bg.1 p z
  obtain ⟨o, h⟩ := h.at
  rw [hp] at h
  cases h
theorem Ctx.h0 (c : Ctx F M σ H δ) {p : Addr} (hp : H p = none) : F.H0 p = none := by
  cases q : F.H0 p with
  | none => rfl
  | some o =>
    have := c.fr p o (c.nob hp) q
    rw [hp] at this
    cases this
theorem Ctx.nown (c : Ctx F M σ H δ) {p : Addr} (hp : H p = none) : NoOw δ p := fun j x h hx => by
  obtain ⟨s, _, ok⟩ := c.sl j _ h
  cases x with
  | own q ds =>
    obtain rfl : p = q := by simpa [SD.ads] using hx
    obtain ⟨_, _, vs, h3, _⟩ := ok
    rw [hp] at h3
    cases h3
  | sto d Ω =>
    obtain ⟨q, hq, e⟩ := List.mem_map.mp hx
    obtain ⟨_, o, h3, _⟩ := ok.2.2 q hq
    rw [e, hp] at h3
    cases h3
  | un => cases hx
  | dat d => cases hx
  | bag => cases hx
  | sq ds => cases hx
  | sl ds => cases hx
  | oll q qs => cases hx
  | stR d Ω => cases hx
theorem al_none {p : Addr} (al : Al M H) (hp : H p = none) : M p = false := by
  cases e : M p with
  | true =>
    obtain ⟨u, h⟩ := al p e
    rw [hp] at h
    cases h
  | false => rfl
theorem EvN.ev {P : D → Prop} (h : EvN F te δ fun ds => P (.lst ds)) : Ev F te δ P := fun M σ H Q c q =>
  h M σ H Q c fun p vs ds H' pd c' hp h0 hb no e hl r => by
    have m := al_none c.al hp
    have s : Same (hd (hid M p) H') (hd M H') := same_hd_le hid_le
    exact q _ (.lst ds) H' pd (c'.show' m h0 no) e (.lst (hd_at m hl) (r.mono s))
theorem en_lst {ta : TA} (h : EvA F ta δ fun ds => ds.length ≤ 100000 ∧ P ds) : EvN F (tLst ta) δ P := fun M σ H Q c q =>
  h M σ H _ c fun vs ds H1 p1 c1 e1 r1 => ⟨by rw [r1.length]; exact sz_of p1.1, fun p hp => by
    have hp0 : H p = none := by
      cases z : H p with
      | none => rfl
      | some o =>
        have := e1 p o (c1.nob hp) z
        rw [hp] at this
        cases this
    have c2 := c1.hide hp (o := .lst vs)
    refine q p vs ds _ p1.2 c2 hp0 (c1.h0 hp) (c1.nob hp) (c1.nown hp) (e1.trans (StepB.of (same_new hp))) upd_same (r1.mono fun a u e => ?_)
    obtain ⟨m, h⟩ := hd_of e
    have n : a ≠ p := ne_of_none h hp
    exact hd_at (by rw [hid_ne n]; exact m) (by rw [upd_ne n]; exact h)⟩
/-- a slot takes a new list as its own -/
theorem do_own {i : Nat} (h : EvN F te δ fun ds => ∀ p, R.nx (δ.set i (.own p (.lst ds)))) : Do F (tAsg te (gName i)) δ R := fun M σ H E c a b k d =>
  h M σ H _ c fun p vs ds H' pd c' hp h0 hb no e hl r => a (hid M p) _ H' _ (pd p) (c'.setOwn i hid_same hl (.lst r) h0 hb fun j x _ => no j x) fun x o hx => by
    obtain ⟨m, h1⟩ := hd_of hx
    have n : x ≠ p := ne_of_none h1 hp
    refine hd_at (by rw [hid_ne n]; exact m) (e x o (fun z => ?_) h1)
    have := c.m0 x (z.elim (fun z => (c.bg.1 x z).1) fun ⟨r, z, e⟩ => e ▸ (c.bg.2 r z).1)
    rw [m] at this
    cases this
theorem do_freeze {i : Nat} {p : Addr} {ds : OD} (hi : δ[i]? = some (.own p ds)) (h : Do F t (δ.set i (.dat ds.d)) R) : Do F t δ R := fun M σ H E c a b k d => by
  have s : Same (hd M H) (hd (shw M p) H) := same_hd_le shw_le
  exact h (shw M p) σ H E (c.freeze hi) (fun M2 σ2 H2 δ2 p2 c2 s2 => a M2 σ2 H2 δ2 p2 c2 (s.trans s2)) (fun v x M2 σ2 H2 δ2 p2 c2 s2 => b v x M2 σ2 H2 δ2 p2 c2 (s.trans s2))
    (fun M2 σ2 H2 δ2 p2 c2 s2 => k M2 σ2 H2 δ2 p2 c2 (s.trans s2)) (fun M2 σ2 H2 δ2 p2 c2 s2 => d M2 σ2 H2 δ2 p2 c2 (s.trans s2))
theorem do_append {i : Nat} {p : Addr} {ds : List D} (hi : δ[i]? = some (.own p (.lst ds))) (hl : ds.length < 100000) (h : Ev F te δ fun x => R.nx (δ.set i (.own p (.lst (ds ++ [x]))))) :
    Do F (tDrop (tBM F.K "list" rAppend (tVar i) (tCons te tNil))) δ R := fun M σ H E c a b k d => by
  obtain ⟨y, h1, hy, m, ho, h3, r0⟩ := c.sl i _ hi
  subst hy
  cases r0 with
  | @lst ws _ r0 =>
  refine ⟨_, h1, .inl ⟨rfl, ws, SqL.of h3⟩, ?_⟩
  refine h M σ H _ c fun v x H1 px c1 e r => ?_
  have h4 := e p _ (c.oh1 hi).2 h3
  have s := hd_step c e
  refine ⟨p, ws, v, rfl, rfl, h4, by rw [r0.length]; exact sz_lt hl, ?_⟩
  refine a M σ _ _ px (c1.put hi (.lst ((r0.mono s).append (RepL.one r)))) ?_
  rw [hd_upd m]
  exact s
/-! comprehensions -/
theorem en_lc {js vs : List Nat} (hw : ItD F wi δ PX) (hl : ∀ xs, PX xs → xs.length ≤ 100000) (hj : ∀ j ∈ js, j ∈ vs) (I : List D → Nat → List D → Prop) (h0 : ∀ xs, PX xs → I xs 0 [])
    (hs : ∀ xs i x acc, PX xs → xs[i]? = some x → I xs i acc → TgD F g js x (wipeD δ vs) fun δ' => EvT F tt δ' fun b => (b = true → Ev F te δ' fun y => I xs (i + 1) (acc ++ [y])) ∧ (b = false → I xs (i + 1) acc))
    (he : ∀ xs ds, PX xs → I xs xs.length ds → P ds) : EvN F (tLc wi g tt te vs) δ P := fun M σ H Q c q => by
  refine hw M σ H _ c fun J xs H1 px c1 e1 wd => ?_
  intro A hA
  obtain ⟨G, Y, w, wg, wy⟩ := wd
  have hA0 : H A = none := by
    cases z : H A with
    | none => rfl
    | some o =>
      have := e1 A o (c1.nob hA) z
      rw [hA] at this
      cases this
  have c2 := c1.hide hA (o := .lst [])
  have mA := al_none c1.al hA
  have s0 : Same (hd M H1) (hd (hid M A) (upd H1 A (.lst []))) := fun a u e => by
    obtain ⟨m, h⟩ := hd_of e
    have n : a ≠ A := ne_of_none h hA
    exact hd_at (by rw [hid_ne n]; exact m) (by rw [upd_ne n]; exact h)
  have k0 : StepB F.mv H (upd H1 A (.lst [])) := e1.trans (StepB.of (same_new hA))
  have hlen := hl xs px
  -- the wiped slots are wiped once and for all
  have ww : ∀ σ2 : L2.St, wipe σ2 vs = wipe (wipe σ vs) vs → wipe σ2 vs = wipe σ vs := fun σ2 h => by
    rw [h]
    have key : ∀ (ws : List Nat) (τ : L2.St), (∀ j ∈ ws, j ∈ vs) → wipe (wipe τ ws) vs = wipe τ vs := by
      intro ws
      induction ws with
      | nil => intro τ _; rfl
      | cons j js ih =>
        intro τ hjs
        show wipe ((wipe τ js).set j none) vs = wipe τ vs
        rw [wipe_set (hjs j (by simp)), ih τ fun k hk => hjs k (List.mem_cons_of_mem _ hk)]
    exact key vs σ fun _ h => h
  refine lc_it w (fun i H' => ∃ ws acc, I xs i acc ∧ acc.length ≤ i ∧ Ctx F (hid M A) σ H' δ ∧ StepB F.mv H H' ∧ Same (hd M H1) (hd (hid M A) H') ∧ H' A = some (.lst ws) ∧ RepL F.K (hd (hid M A) H') ws acc)
    ⟨[], [], h0 xs px, Nat.le_refl _, c2, k0, s0, upd_same, .nil⟩ (fun i H' _ ⟨_, _, _, _, c', _, s, _⟩ => wg (hid M A) H' s c'.fr) ?_ ?_
  · rintro i x H' H2 hi ⟨ws, acc, hI, ha, c', k', s, hAl, r⟩ y
    obtain ⟨s2, dx, h1, rx⟩ := wy (hid M A) H' i x H2 c'.al s y
    have c2 := c'.same s2
    refine hs xs i dx acc px h1 hI (hid M A) (wipe σ vs) H2 x _ (c2.wipe vs) rx fun σ3 H3 δ3 p3 c3 e3 w3 => ⟨ww σ3 (w3 vs hj), ?_⟩
    refine p3 (hid M A) σ3 H3 _ c3 fun b H4 pb c4 e4 => ?_
    have k4 : StepB F.mv H2 H4 := e3.trans e4
    have c24 : Ctx F (hid M A) σ H4 δ := c2.stepG k4 c4.bg
    have s24 : Same (hd (hid M A) H2) (hd (hid M A) H4) := hd_step c2 k4
    have hA2 : H2 A = some (.lst ws) := s2 _ _ hAl
    have hA4 : H4 A = some (.lst ws) := k4 A _ (c1.nob hA) hA2
    have k' : StepB F.mv H H2 := k'.trans (StepB.of s2)
    have s' : Same (hd M H1) (hd (hid M A) H2) := s.trans (same_hdM s2)
    have r' : RepL F.K (hd (hid M A) H2) ws acc := r.mono (same_hdM s2)
    cases b with
    | false =>
      rw [if_neg Bool.false_ne_true]
      exact ⟨ws, acc, pb.2 rfl, Nat.le_succ_of_le ha, c24, k'.trans k4, s'.trans s24, hA4, r'.mono s24⟩
    | true =>
      rw [if_pos rfl]
      refine pb.1 rfl (hid M A) σ3 H4 _ c4 fun v d H5 pd c5 e5 r5 => ?_
      have k5 : StepB F.mv H2 H5 := k4.trans e5
      have c25 : Ctx F (hid M A) σ H5 δ := c2.stepG k5 c5.bg
      have s25 : Same (hd (hid M A) H2) (hd (hid M A) H5) := hd_step c2 k5
      have hA5 : H5 A = some (.lst ws) := k5 A _ (c1.nob hA) hA2
      have hm : hd (hid M A) (upd H5 A (.lst (ws ++ [v]))) = hd (hid M A) H5 := hd_upd hid_same
      have hal : acc.length < 100000 := by omega
      refine ⟨ws, hA5, by rw [r.length]; exact sz_lt hal, ws ++ [v], acc ++ [d], pd, by simp only [List.length_append, List.length_cons, List.length_nil]; omega, ?_, ?_, ?_, upd_same, ?_⟩
      · refine c25.poke hid_same hA5 (c1.h0 hA) (c1.nob hA) (c1.nown hA)
      · intro a o n h
        by_cases e : a = A
        · subst e
          rw [hA0] at h
          cases h
        · rw [upd_ne e]
          exact k5 a o n (k' a o n h)
      · rw [hm]
        exact s'.trans s25
      · rw [hm]
        exact (r'.mono s25).append (RepL.one r5)
  · rintro H' ⟨ws, acc, hI, ha, c', k', s, hAl, r⟩
    exact q A ws acc H' (he xs acc px hI) c' hA0 (c1.h0 hA) (c1.nob hA) (c1.nown hA) k' hAl r
end
end Pf

namespace Pf
open PySem L2 RZ

/-! ### calls of defs -/
/-- a promise that speaks of data alone; one of a def whose first argument is the bag -/
def spD (K : PySem.W.Frag) (Pre : List D → Prop) (Post : List D → D → Prop) : Sp := fun vs H Q _ => ∃ (M : Addr → Bool) (ds : List D), Al M H ∧ RepL K (hd M H) vs ds ∧ Pre ds ∧
  ∀ v d H', Post ds d → Same H H' → Rep K (hd M H') v d → Q v H'
def spB (K : PySem.W.Frag) (Pre : List D → Prop) (Post : List D → D → Prop) : Sp := fun vs H Q _ => ∃ (M : Addr → Bool) (b c : Addr) (ws : List V) (ds : List D), vs = .ref b :: ws ∧ Al M H ∧ M b = true ∧ BagAt H b c ∧ RepL K (hd M H) ws ds ∧ Pre ds ∧
  ∀ v d H', Post ds d → StepB (· = b) H H' → BagAt H' b c → Rep K (hd M H') v d → Q v H'
section
variable {F : Fm} {δ : List SD} {ta : TA} {te : TE} {P : D → Prop} {Pre : List D → Prop} {Post : List D → D → Prop} {E : XK}
theorem ev_call (h : EvA F ta δ fun ds => Pre ds ∧ ∀ d, Post ds d → P d) : Ev F (tCall (spD F.K Pre Post) [] E ta) δ P := fun M σ H Q c q =>
  h M σ H _ c fun vs ds H1 p c1 e1 r => by
    rw [List.append_nil]
    exact ⟨M, ds, c1.al, r, p.1, fun v d H2 pd s r2 => q v d H2 (p.2 d pd) (c1.same s) (e1.trans (StepB.of s)) r2⟩
theorem ev_callB {i : Nat} {b : Addr} (hb : F.B = some b) (hi : δ[i]? = some .bag) (h : EvA F ta δ fun ds => Pre ds ∧ ∀ d, Post ds d → P d) : Ev F (tCall (spB F.K Pre Post) [] E (tCons (tVar i) ta)) δ P := fun M σ H Q c q => by
  obtain ⟨s, h1, b', h2, h3⟩ := c.sl i _ hi
  subst h3
  rw [hb] at h2
  cases h2
  refine ⟨_, h1, ?_⟩
  refine h M σ H _ c fun vs ds H1 p c1 e1 r => ?_
  show spB F.K Pre Post (V.ref b :: vs ++ []) H1 Q E
  rw [List.append_nil]
  obtain ⟨g0, g1, g2⟩ := c1.bg.1 b hb
  refine ⟨M, b, F.C0, vs, ds, rfl, c1.al, c1.m0 b g0, g1, r, p.1, fun v d H2 pd s ba r2 => ?_⟩
  have s' : StepB F.mv H1 H2 := fun a o n h => s a o (fun z => n (.inl (by rw [hb, z]))) h
  exact q v d H2 (p.2 d pd) (c1.stepG s' ⟨fun b2 z => by
    rw [hb] at z
    cases z
    exact ⟨g0, ba, g2⟩, fun r h => by
    obtain ⟨z1, z2, z3⟩ := c1.bg.2 r h
    obtain ⟨_, _, _, _, _, g3, _⟩ := g1
    refine ⟨z1, tabS_step z2 (fun ps z2 => s r.1 _ (fun z => ?_) z2) (fun x z2 => s x _ (fun z => ?_) z2), fun x φ m y => ?_⟩
    rotate_left
    rotate_left
    · obtain ⟨o, ho⟩ := c1.al x m
      by_cases e : x = b
      · obtain ⟨_, _, _, _, _, g4, _⟩ := ba
        rw [e, g4] at y
        cases y
      · have := s x o e ho
        rw [y] at this
        cases this
        exact z3 x φ m ho
    · have z : r.1 = b := z
      rw [z, g3] at z2
      cases z2
    · have z : x = b := z
      rw [z, g3] at z2
      cases z2⟩) (e1.trans s') r2
end
/-! ### into a def's body -/
def slots (N : List Str) (ds : List D) : List SD := ds.map .dat ++ List.replicate (N.length - ds.length) .un
def slotsB (N : List Str) (ds : List D) : List SD := .bag :: (ds.map .dat ++ List.replicate (N.length - (ds.length + 1)) .un)
theorem sl_base {K : PySem.W.Frag} {F : Fm} {M : Addr → Bool} {H : Hp} (hK : F.K = K) : ∀ {vs : List V} {ds : List D} (n : Nat), RepL K (hd M H) vs ds →
    ∀ (i : Nat) (x : SD), (ds.map SD.dat ++ List.replicate n .un)[i]? = some x → ∃ s, (vs.map some ++ List.replicate n none)[i]? = some s ∧ SlotOk F M H s x
  | [], [], n, .nil, i, x, h => by
    simp only [List.map_nil, List.nil_append, List.getElem?_replicate] at h ⊢
    split at h
    · rename_i hi
      cases h
      exact ⟨none, by rw [if_pos hi], trivial⟩
    · cases h
  | v :: vs, d :: ds, n, .cons r rs, 0, x, h => by
    have e : SD.dat d = x := by simpa using h
    subst e
    exact ⟨some v, rfl, v, rfl, by rw [hK]; exact r⟩
  | v :: vs, d :: ds, n, .cons r rs, i + 1, x, h => sl_base hK n rs i x (by simpa using h)
theorem no_own {ds : List D} {n : Nat} {i : Nat} {p : Addr} {x : SD} (h : (ds.map SD.dat ++ List.replicate n .un)[i]? = some x) : p ∉ x.ads := fun hp => by
  have := List.mem_of_getElem? h
  rcases List.mem_append.mp this with h | h
  · obtain ⟨d, _, e⟩ := List.mem_map.mp h
    subst e
    cases hp
  · have := List.eq_of_mem_replicate h
    subst this
    cases hp
theorem no_ownB {N : List Str} {ds : List D} {i : Nat} {p : Addr} {x : SD} (h : (slotsB N ds)[i]? = some x) : p ∉ x.ads := by
  unfold slotsB at h
  cases i with
  | zero =>
    have e : SD.bag = x := by simpa using h
    subst e
    intro hp
    cases hp
  | succ i => exact no_own (show (ds.map SD.dat ++ List.replicate (N.length - (ds.length + 1)) .un)[i]? = some x by simpa using h)
section
variable {K : PySem.W.Frag} {N : List Str} {vs : List V} {H : Hp} {Q : VK} {E : XK} {t : TS} {Pre : List D → Prop} {Post : List D → D → Prop}
theorem enterD (hs : spD K Pre Post vs H Q E) (hb : ∀ (M : Addr → Bool) (ds : List D), Pre ds → ds.length = vs.length → Do ⟨K, none, M, H, E, 0, []⟩ t (slots N ds) { nx := fun _ => Post ds .non, rt := Post ds }) :
    t { nx := fun _ H' => Q .non H', rt := Q } (L2.start N vs) H := by
  obtain ⟨M, ds, al, r, pre, q⟩ := hs
  have hl := r.length
  have c : Ctx ⟨K, none, M, H, E, 0, []⟩ M (L2.start N vs) H (slots N ds) := by
    refine ⟨al, al, fun _ h => h, StepB.refl _ _, ⟨fun b z => (nomatch z), fun a h => (nomatch h)⟩, ?_, ?_, fun i j x y p h1 h2 hp _ => absurd hp (no_own h1), fun i x p h hp => absurd hp (no_own h)⟩
    · unfold L2.start slots
      rw [List.length_append, List.length_append, List.length_map, List.length_map, List.length_replicate, List.length_replicate, hl]
    · unfold L2.start slots
      rw [hl]
      exact sl_base rfl _ r
  refine hb M ds pre hl.symm M _ H _ c (fun M' σ' H' δ' p c' s => ?_) (fun v d M' σ' H' δ' p c' s r' => ?_) (fun _ _ _ _ p => p.elim) (fun _ _ _ _ p => p.elim)
  · exact q _ _ H' p (fun a o h => c'.fr a o (mv_none rfl rfl a) h) .non
  · exact q v d H' p (fun a o h => c'.fr a o (mv_none rfl rfl a) h) (r'.mono (same_hd_le fun a h => c'.m0 a h))
theorem enterB (hs : spB K Pre Post vs H Q E) (hb : ∀ (M : Addr → Bool) (b c : Addr) (ds : List D), Pre ds → ds.length + 1 = vs.length → Do ⟨K, some b, M, H, E, c, []⟩ t (slotsB N ds) { nx := fun _ => Post ds .non, rt := Post ds }) :
    t { nx := fun _ H' => Q .non H', rt := Q } (L2.start N vs) H := by
  obtain ⟨M, b, cc, ws, ds, rfl, al, mb, ba, r, pre, q⟩ := hs
  have hl := r.length
  have hc : ∃ o, H cc = some o := by
    obtain ⟨ns, i, z, s, t, _, _, h3, _⟩ := ba
    exact ⟨_, h3⟩
  have c : Ctx ⟨K, some b, M, H, E, cc, []⟩ M (L2.start N (.ref b :: ws)) H (slotsB N ds) := by
    refine ⟨al, al, fun _ h => h, StepB.refl _ _, ⟨fun b z => ?_, fun a h => (nomatch h)⟩, ?_, fun i x h => ?_, fun i j x y p h1 h2 hp _ => absurd hp (no_ownB h1), fun i x p h hp => absurd hp (no_ownB h)⟩
    · cases z
      exact ⟨mb, ba, hc⟩
    · unfold L2.start slotsB
      simp only [List.length_append, List.length_cons, List.length_map, List.length_replicate, hl]
      omega
    · unfold L2.start
      unfold slotsB at h
      cases i with
      | zero =>
        have e : SD.bag = x := by simpa using h
        subst e
        exact ⟨_, rfl, b, rfl, rfl⟩
      | succ i =>
        have h' : (ds.map SD.dat ++ List.replicate (N.length - (ds.length + 1)) .un)[i]? = some x := by simpa using h
        rw [List.length_cons, hl]
        exact sl_base rfl _ r i x h'
  refine hb M b cc ds pre (by rw [List.length_cons, hl]) M _ H _ c (fun M' σ' H' δ' p c' s => ?_) (fun v d M' σ' H' δ' p c' s r' => ?_) (fun _ _ _ _ p => p.elim) (fun _ _ _ _ p => p.elim)
  · exact q _ _ H' p (fun a o n h => c'.fr a o (mv_bag rfl rfl n) h) (c'.bg.1 b rfl).2.1 .non
  · exact q v d H' p (fun a o n h => c'.fr a o (mv_bag rfl rfl n) h) (c'.bg.1 b rfl).2.1 (r'.mono (same_hd_le fun a h => c'.m0 a h))
end
theorem spD_len {K : PySem.W.Frag} {Pre : List D → Prop} {Post : List D → D → Prop} {n : Nat} (h : ∀ ds, Pre ds → ds.length = n) : ∀ vs H Q E, spD K Pre Post vs H Q E → vs.length = n := fun vs H Q E ⟨M, ds, _, r, p, _⟩ => by rw [r.length, h ds p]
theorem spB_len {K : PySem.W.Frag} {Pre : List D → Prop} {Post : List D → D → Prop} {n : Nat} (h : ∀ ds, Pre ds → ds.length + 1 = n) : ∀ vs H Q E, spB K Pre Post vs H Q E → vs.length = n := fun vs H Q E ⟨M, b, c, ws, ds, e, _, _, _, r, p, _⟩ => by
  subst e
  rw [List.length_cons, r.length, h ds p]

/-! ### operations -/
section
variable {K : PySem.W.Frag} {P : D → Prop} {i j : Int} {x y : D}
theorem od_eq_int (p : P (.bl (decide (i = j)))) : OpD K rEq (.int i) (.int j) P := fun M H v w Q al r1 r2 q => by
  cases r1
  cases r2
  exact ⟨rfl, q _ _ H (show P (.bl (decide (V.int i = V.int j))) by rw [show decide (V.int i = V.int j) = decide (i = j) by rw [dec_int, Bool.beq_eq_decide_eq]]; exact p) (Same.refl H) (.bl _)⟩
theorem od_ne_int (p : P (.bl (!decide (i = j)))) : OpD K rNe (.int i) (.int j) P := fun M H v w Q al r1 r2 q => by
  cases r1
  cases r2
  exact ⟨rfl, q _ _ H (show P (.bl (!decide (V.int i = V.int j))) by rw [show decide (V.int i = V.int j) = decide (i = j) by rw [dec_int, Bool.beq_eq_decide_eq]]; exact p) (Same.refl H) (.bl _)⟩
theorem od_eq_bl {a b : Bool} (p : P (.bl (decide (a = b)))) : OpD K rEq (.bl a) (.bl b) P := fun M H v w Q al r1 r2 q => by
  cases r1
  cases r2
  exact ⟨rfl, q _ _ H (show P (.bl (decide (V.bl a = V.bl b))) by rw [show decide (V.bl a = V.bl b) = decide (a = b) by rw [dec_bl, Bool.beq_eq_decide_eq]]; exact p) (Same.refl H) (.bl _)⟩
theorem od_ne_bl {a b : Bool} (p : P (.bl (!decide (a = b)))) : OpD K rNe (.bl a) (.bl b) P := fun M H v w Q al r1 r2 q => by
  cases r1
  cases r2
  exact ⟨rfl, q _ _ H (show P (.bl (!decide (V.bl a = V.bl b))) by rw [show decide (V.bl a = V.bl b) = decide (a = b) by rw [dec_bl, Bool.beq_eq_decide_eq]]; exact p) (Same.refl H) (.bl _)⟩
theorem od_eq_str {a b : Str} (p : P (.bl (decide (a = b)))) : OpD K rEq (.str a) (.str b) P := fun M H v w Q al r1 r2 q => by
  cases r1
  cases r2
  exact ⟨rfl, q _ _ H (show P (.bl (decide (V.str a = V.str b))) by rw [show decide (V.str a = V.str b) = decide (a = b) by rw [dec_str, Bool.beq_eq_decide_eq]]; exact p) (Same.refl H) (.bl _)⟩
theorem od_ne_str {a b : Str} (p : P (.bl (!decide (a = b)))) : OpD K rNe (.str a) (.str b) P := fun M H v w Q al r1 r2 q => by
  cases r1
  cases r2
  exact ⟨rfl, q _ _ H (show P (.bl (!decide (V.str a = V.str b))) by rw [show decide (V.str a = V.str b) = decide (a = b) by rw [dec_str, Bool.beq_eq_decide_eq]]; exact p) (Same.refl H) (.bl _)⟩
/-- x is None -/
def isNon : D → Bool | .non => true | _ => false
theorem rep_non {H : Hp} {v : V} (r : Rep K H v x) : decide (v = .non) = isNon x := by
  cases r <;> rfl
theorem ud_isN (p : P (.bl (isNon x))) : OpD K (fun x y H Q => y = .non ∧ Q (.bl (decide (x = .non))) H) x .non P := fun M H v w Q al r1 r2 q => by
  have e := rep_non r1
  cases r2
  exact ⟨rfl, by rw [e]; exact q _ _ H p (Same.refl H) (.bl _)⟩
theorem ud_notN (p : P (.bl (!isNon x))) : OpD K (fun x y H Q => y = .non ∧ Q (.bl (!decide (x = .non))) H) x .non P := fun M H v w Q al r1 r2 q => by
  have e := rep_non r1
  cases r2
  exact ⟨rfl, by rw [e]; exact q _ _ H p (Same.refl H) (.bl _)⟩
theorem repL_at {H : Hp} {vs : List V} {ds : List D} {d : D} (r : RepL K H vs ds) (h : atI ds i = some d) : ∃ v, atI vs i = some v ∧ Rep K H v d := by
  unfold atI at h ⊢
  rw [r.length]
  cases e : ixN ds.length i with
  | none => rw [e] at h; cases h
  | some k =>
    rw [e] at h
    exact r.get h
theorem od_ixL {ds : List D} {d : D} (h : atI ds i = some d) (p : P d) : OpD K (rIxL K) (.lst ds) (.int i) P := fun M H v w Q al r1 r2 q => by
  cases r1 with
  | lst h1 h2 =>
    cases r2
    obtain ⟨v, e, r⟩ := repL_at h2 h
    exact ⟨_, _, i, v, rfl, rfl, SqL.of (hd_of h1).2, e, q v d H p (Same.refl H) r⟩
theorem od_ixT {ds : List D} {d : D} (h : atI ds i = some d) (p : P d) : OpD K (rIxT K) (.tup ds) (.int i) P := fun M H v w Q al r1 r2 q => by
  cases r1 with
  | tup h1 h2 =>
    cases r2
    obtain ⟨v, e, r⟩ := repL_at h2 h
    exact ⟨_, _, i, v, rfl, rfl, same_tup (same_hd M H) h1, e, q v d H p (Same.refl H) r⟩
theorem od_ixS {z : Str} {c : Nat} (hz : z.length ≤ 100000) (h : atI z.cps.toList i = some c) (p : P (.str ⟨#[c]⟩)) : OpD K rIxS (.str z) (.int i) P := fun M H v w Q al r1 r2 q => by
  cases r1
  cases r2
  exact ⟨z, i, c, rfl, rfl, sz_of hz, h, q _ _ H p (Same.refl H) (.str _)⟩
theorem atI_nat' {α : Type} {xs : List α} {i : Int} (h0 : 0 ≤ i) (h : i.toNat < xs.length) : atI xs i = some (xs[i.toNat]) := by
  obtain ⟨n, rfl⟩ : ∃ n : Nat, i = (n : Int) := ⟨i.toNat, by omega⟩
  exact atI_nat (by simp)
theorem od_leS {a b : Str} (p : P (.bl (!decide (b.cps.toList < a.cps.toList)))) : OpD K (fun x y H Q => ∃ i j, x = .str i ∧ y = .str j ∧ Q (.bl (!decide (j.cps.toList < i.cps.toList))) H) (.str a) (.str b) P := fun M H v w Q al r1 r2 q => by
  cases r1
  cases r2
  exact ⟨a, b, rfl, rfl, q _ _ H p (Same.refl H) (.bl _)⟩
theorem od_cat {xs ys : List D} (h : xs.length + ys.length ≤ 100000) (p : P (.lst (xs ++ ys))) : OpD K rCat (.lst xs) (.lst ys) P := fun M H v w Q al r1 r2 q => by
  cases r1 with
  | lst h1 h2 =>
    cases r2 with
    | lst h3 h4 =>
      refine ⟨_, _, _, _, rfl, rfl, (hd_of h1).2, (hd_of h3).2, by rw [h2.length, h4.length]; exact sz_of h, fun p' hp => ?_⟩
      exact q _ _ _ p (same_new hp) (.lst (hd_new al hp) ((h2.append h4).mono (same_hdM (same_new hp))))
theorem repL_rep {H : Hp} {vs : List V} {ds : List D} (r : RepL K H vs ds) : ∀ n : Nat, RepL K H (List.replicate n vs).flatten (List.replicate n ds).flatten
  | 0 => .nil
  | n + 1 => by
    rw [List.replicate_succ, List.replicate_succ, List.flatten_cons, List.flatten_cons]
    exact r.append (repL_rep r n)
theorem od_rep {xs : List D} {k : Int} (h0 : 0 ≤ k) (h : k ≤ 100000) (hz : xs.length * k.toNat ≤ 100000) (p : P (.lst (List.replicate k.toNat xs).flatten)) : OpD K rRep (.lst xs) (.int k) P := fun M H v w Q al r1 r2 q => by
  cases r1 with
  | lst h1 h2 =>
    cases r2
    refine ⟨_, k, _, rfl, rfl, (hd_of h1).2, by omega, by omega, by rw [h2.length]; exact sz_of hz, fun p' hp => ?_⟩
    exact q _ _ _ p (same_new hp) (.lst (hd_new al hp) ((repL_rep h2 _).mono (same_hdM (same_new hp))))
/-! slices -/
end
def EvO (F : Fm) (to : TO) (δ : List SD) (P : Option Int → Prop) : Prop := ∀ M σ H (Q : Option Int → Hp → Prop), Ctx F M σ H δ →
  (∀ o H', P o → Ctx F M σ H' δ → StepB F.mv H H' → Q o H') → to σ H Q
section
variable {F : Fm} {δ : List SD} {ta tb tc te : TE} {tl th : TO} {tt tu : TT} {P : D → Prop} {PL : List D → Prop} {PO : Option Int → Prop}
theorem eo_none (p : PO none) : EvO F tNoPart δ PO := fun M σ H Q c q => q _ H p c (StepB.refl _ _)
theorem eo_some (h : Ev F te δ fun d => ∃ i, d = .int i ∧ PO (some i)) : EvO F (tPart te) δ PO := fun M σ H Q c q =>
  h M σ H _ c fun v d H1 p c1 e r => by
    obtain ⟨i, rfl, p⟩ := p
    cases r
    exact ⟨i, rfl, q _ H1 p c1 e⟩
theorem ev_slS (h : Ev F te δ fun d => EvO F tl δ fun lo => EvO F th δ fun hi => ∃ z, d = .str z ∧ z.length ≤ 100000 ∧ P (.str (cutS z lo hi))) : Ev F (tSl rSlS te tl th) δ P := fun M σ H Q c q =>
  h M σ H _ c fun v d H1 p c1 e1 r => p M σ H1 _ c1 fun lo H2 p2 c2 e2 => p2 M σ H2 _ c2 fun hi H3 p3 c3 e3 => by
    obtain ⟨z, rfl, hz, p⟩ := p3
    cases r
    exact ⟨z, rfl, sz_of hz, q _ _ H3 p c3 ((e1.trans e2).trans e3) (.str _)⟩
end
/-! ### calls of built-ins -/
/-- the built-in type of data -/
def tyName : D → Option String
  | .non => some "NoneType" | .bl _ => some "bool" | .int _ => some "int" | .str _ => some "str" | .lst _ => some "list" | .tup _ => some "tuple" | .dic _ => some "dict" | _ => none
def tyNames : List String := ["NoneType", "bool", "int", "str", "list", "tuple", "dict"]
def tyAsk : List String := ["bool", "int", "str", "list", "tuple", "dict"]
/-- isinstance by names -/
def isTy (a n : String) : Bool := a == n || (a == "bool" && n == "int")
theorem kit_all : (tyNames.all fun a => tyAsk.all fun n => decide (kitB a n = some (isTy a n))) = true := by decide +kernel
theorem kit_isTy {a n : String} (ha : a ∈ tyNames) (hn : n ∈ tyAsk) : kitB a n = some (isTy a n) :=
  of_decide_eq_true (List.all_eq_true.mp (List.all_eq_true.mp kit_all a ha) n hn)
theorem tyName_mem {d : D} {a : String} (h : tyName d = some a) : a ∈ tyNames := by
  cases d <;> simp only [tyName, Option.some.injEq, reduceCtorEq] at h <;> (subst h; decide)
theorem tyX_of {K : PySem.W.Frag} {H : Hp} {v : V} {d : D} {a : String} (r : Rep K H v d) (h : tyName d = some a) : TyX K H v (.type a) := by
  cases r with
  | non => cases h; exact .base .non
  | bl b => cases h; exact .base (.bl b)
  | int i => cases h; exact .base (.int i)
  | str x => cases h; exact .base (.str x)
  | lst h1 _ => cases h; exact .base (.lst h1)
  | tup h1 _ =>
    cases h
    rcases h1 with (h1 | ⟨o, h1⟩) | ⟨o, its, n, h1, h2, _⟩
    · exact .base (.tup h1)
    · exact .fTuple h1
    · exact .kTuple h1 h2
  | dic h1 _ => cases h; exact .base (.dK h1)
  | ins h1 _ => cases h
  | ty n => cases h
  | adr a => cases h
  | exc h1 h2 _ => cases h
  | fn _ _ => cases h
  | dicN _ _ => cases h
theorem TyX.mono {K : PySem.W.Frag} {M : Addr → Bool} {H : Hp} {v : V} {d : D} {a : String} (r : Rep K (hd M H) v d) (h : tyName d = some a) : TyX K H v (.type a) := tyX_of (r.mono (same_hd M H)) h
/-- isinstance of a type and of a tuple of types, on data -/
def isD (d : D) (n : String) : Bool := match tyName d with | some a => isTy a n | none => false
section
variable {K : PySem.W.Frag} {P : D → Prop} {i j : Int} {x y : D} {n : String}
theorem cd_isi {a : String} (hx : tyName x = some a) (hn : n ∈ tyAsk) (p : P (.bl (isD x n))) : CallD K (rIsi K) [x, .ty n] P := fun M H vs Q al r q => by
  cases r with
  | cons r1 r2 =>
    cases r2 with
    | cons r2 r3 =>
      cases r3
      cases r2
      have e : isD x n = isTy a n := by unfold isD; rw [hx]
      exact ⟨_, _, .type a, .type n, isTy a n, rfl, .ty n, TyX.mono r1 hx, kit_ty (kit_isTy (tyName_mem hx) hn), by rw [← e]; exact q _ _ H p (Same.refl H) (.bl _)⟩
/-- the length of data -/
def lenD : D → Option Nat
  | .str z => some z.length | .lst xs => some xs.length | .tup xs => some xs.length | _ => none
theorem cd_len {k : Nat} (h : lenD x = some k) (hz : k ≤ 100000) (p : P (.int (k : Int))) : CallD K (fun xs H Q => ∃ x n, xs = [x] ∧ LenV K x H n ∧ Q (.int (n : Nat)) H) [x] P := fun M H vs Q al r q => by
  cases r with
  | cons r1 r2 =>
    cases r2
    refine ⟨_, k, rfl, ?_, q _ _ H p (Same.refl H) (.int _)⟩
    cases r1 with
    | str z => cases h; exact ⟨sz_of hz, rfl⟩
    | lst h1 h2 => cases h; exact .inl ⟨_, SqL.of (hd_of h1).2, h2.length.symm⟩
    | tup h1 h2 => cases h; exact .inr ⟨_, same_tup (same_hd M H) h1, h2.length.symm⟩
    | _ => cases h
def blD (bs : List Bool) : List D := bs.map .bl
theorem repL_bl {H : Hp} : ∀ {vs : List V} {bs : List Bool}, RepL K H vs (blD bs) → vs = bs.map V.bl
  | _, [], .nil => rfl
  | _, b :: bs, .cons (.bl _) r => by rw [List.map_cons, repL_bl (bs := bs) r]
theorem cd_all {bs : List Bool} (p : P (.bl (bs.all id))) : CallD K (rAll K) [.lst (blD bs)] P := fun M H vs Q al r q => by
  cases r with
  | cons r1 r2 =>
    cases r2
    cases r1 with
    | lst h1 h2 =>
      have e := repL_bl h2
      subst e
      exact ⟨_, bs, rfl, SqL.of (hd_of h1).2, q _ _ H p (Same.refl H) (.bl _)⟩
end
end Pf

namespace PySem
open AutoSeq1 (wpAny_loadPart')
/-! enumerate of a tuple -/
theorem enumT_new (l : Addr) (items : Array Value) (n : Nat) (dct : Option Addr) (sl : Array (Option Value)) :
    Meets (Builtin.«enumerate.__new__» ⟨[.type "enumerate", .ref l], []⟩) (fun _ R s => s.heap.get? l = some { cls := .type "tuple", dict := dct, data := .seq items n, slots := sl } ∧
      R (.ok (.ret (.ref (s.heap.push { cls := .type "tuple_iterator", data := .fields #[.ref l, .int 0 0] }).objs.size)))
        { s with heap := (s.heap.push { cls := .type "tuple_iterator", data := .fields #[.ref l, .int 0 0] }).push { cls := .type "enumerate", data := .fields #[.none, .bool false, .ref s.heap.objs.size, rawInt 0, .none, .none] } }) :=
  .of_wp fun prog w A R s h => by
    obtain ⟨hp, g, d, tk, os⟩ := s; obtain ⟨hl, h⟩ := h
    have hsub := sub_enumerate
    have hL : Heap.IsTuple (Shared.heap ⟨hp, g, d, tk, os⟩) l items := ⟨_, hl, rfl, n, rfl⟩
    wp_walk using wpAny_loadPart' hl
    refine wpAny_stack_any fun st => wpAny_pure ?_
    split
    · rename_i c _ _ _ _ _
      cases (c == Value.type "enumerate")
      · wp_walk using wpAny_loadPart' hl, wpAny_pyIter_tuple hL
        exact ⟨_, rfl, h⟩
      · wp_walk using wpAny_loadPart' hl, wpAny_pyIter_tuple hL
        exact ⟨_, rfl, h⟩
    · wp_walk using wpAny_loadPart' hl, wpAny_pyIter_tuple hL
      exact ⟨_, rfl, h⟩
theorem enumT_call {prog : Program} {w : World} {A : Around} {E : Value → Shared → Prop} {s : Shared} {l : Addr} {items : Array Value} {Q : Value → Shared → Prop} (hL : s.heap.IsTuple l items)
    (h : ∀ h', IsEnum h' (s.heap.objs.size + 1) s.heap.objs.size 0 .none → h'.IsTupleIter s.heap.objs.size l 0 → h'.objs.size = s.heap.objs.size + 2 →
      (∀ b o, s.heap.get? b = some o → h'.get? b = some o) → Q (.ref (s.heap.objs.size + 1)) { s with heap := h' }) :
    wpAny (model prog w) A (call (.type "enumerate") [.ref l]) Q E s := by
  obtain ⟨⟨c, dct, dt, sl⟩, hl, hc, n, hd⟩ := hL
  replace hc : c = .type "tuple" := hc
  replace hd : dt = .seq items n := hd
  subst hc hd
  refine callType_new F.called_enumerate (by decide) (F.typeCall_enumerate_1 _) (F.newCall_enumerate_1 _) (fun obj => F.args_object_init_2 obj _) F.entry_enumerate_new
    (enumT_new l items n dct sl) ⟨hl, ?_⟩
  have hz : (s.heap.push { cls := .type "tuple_iterator", data := .fields #[.ref l, .int 0 0] }).objs.size = s.heap.objs.size + 1 := Heap.size_push ..
  show _ ∧ _
  rw [hz]
  have he : IsEnum ((s.heap.push { cls := .type "tuple_iterator", data := .fields #[.ref l, .int 0 0] }).push
      { cls := .type "enumerate", data := .fields #[.none, .bool false, .ref s.heap.objs.size, rawInt 0, .none, .none] }) (s.heap.objs.size + 1) s.heap.objs.size 0 .none := by
    have := Heap.get?_push_size (s.heap.push { cls := .type "tuple_iterator", data := .fields #[.ref l, .int 0 0] })
      (o := { cls := .type "enumerate", data := .fields #[.none, .bool false, .ref s.heap.objs.size, rawInt 0, .none, .none] }) rfl
    rw [hz] at this; exact this
  refine ⟨⟨_, he, rfl⟩, h _ he ⟨_, Heap.get?_push_of_some _ (Heap.get?_push_size _ rfl), rfl, rfl⟩ (by rw [Heap.size_push, hz]) fun b o x => Heap.get?_push_of_some _ (Heap.get?_push_of_some _ x)⟩
theorem enumT_end {prog : Program} {w : World} {A : Around} {E : Value → Shared → Prop} {s : Shared} {e it l : Addr} {i : Nat} {items : Array Value} {old : Value} {Q : Option Value → Shared → Prop} (hh : A.handled = none)
    (he : IsEnum s.heap e it i old) (hit : s.heap.IsTupleIter it l i) (hl : s.heap.IsTuple l items) (hx : items[i]? = none)
    (hQ : ∀ h', Heap.ExtBut it s.heap h' → Q none { s with heap := h' }) : wpAny (model prog w) A (pyNext (.ref e)) Q E s := by
  have hT : s.TypeIs (.ref e) "enumerate" := ⟨_, he, rfl⟩
  unfold pyNext
  refine wpAny_bind (wpAny_attempt (wpAny_callSpecial?_slot (name := Str.ofString "__next__") hT F.slot_enumerate_next
    (wpAny_call_entry F.slot_enumerate_next hT F.entry_enumerate_next ?_ (F.args_enumerate_next_1 _))))
  show wpAny _ _ (field (.ref e) 2 >>= _) _ _ _
  refine wpAny_bind (wpAny_field he rfl (x := .ref it) rfl ?_)
  refine wpAny_bind (wpAny_nextOf_tuple_end hh hit hl hx fun h' x he' hx' => ?_)
  obtain ⟨o, ho, hc⟩ := hx'
  refine wpAny_bind (wpAny_isInstance (T := "StopIteration") (b := true) ⟨o, ho, hc⟩ isSubtype_stop ?_)
  exact wpAny_pure (hQ _ he')
end PySem
namespace Pf
open PySem L2 RZ PySem.Spec PyProof.Rows
/-- the tuple at a, each item in a new pair with its number -/
def IteT (K : PySem.W.Frag) (a : Addr) : It :=
  ⟨fun i H => ∃ (xs : List V) (x : V), SqT K H a xs ∧ xs[i]? = some x, fun i H v H' => ∃ T x, v = .ref T ∧ H T = none ∧ H' = upd H T (.tup [.int (i : Nat), x]) ∧ ∀ xs, SqT K H a xs → xs[i]? = some x, fun i H => ∃ xs : List V, SqT K H a xs ∧ xs.length ≤ i⟩
theorem turn_enumT {P : Program} {w : World} {K : PySem.W.Frag} {elts : List Expr} {kk : Nat} {tpos : Pos} (a e it : Addr) (hai : a ≠ it) (hae : a ≠ e) :
    Turn P w K (.Tuple elts kk tpos) (IteT K a) [e, it] e (fun i h => (∃ old, IsEnum h e it ((i : Nat) : Int) old) ∧ h.IsTupleIter it a i ∧ e ≠ it) where
  mem := by simp
  obj := fun i h st b hb => by
    obtain ⟨⟨old, he⟩, ⟨o, ho, hc, hd⟩, _⟩ := st
    have e' : b = e ∨ b = it := by simpa using hb
    rcases e' with z | z
    · rw [z]; exact ⟨_, he, fun v q => nomatch q⟩
    · rw [z]; exact ⟨o, ho, fun v q => by rw [hd] at q; cases q⟩
  keep := fun i h h' st k => let ⟨⟨old, he⟩, hi, hne⟩ := st; ⟨⟨old, k e (by simp) _ he⟩, hi.at fun o q => k it (by simp) o q, hne⟩
  item := by
    intro X hP hw hK hc i pins s σ H E I hf st hg
    subst hP hw hK
    obtain ⟨⟨old, he⟩, hit, hne⟩ := st
    obtain ⟨xs, x, hq, hx⟩ := hg
    obtain ⟨its, rv, p, hz⟩ := I.tuple hq
    obtain ⟨u, hu, ru⟩ := rv.get hx
    have hlt : i < its.toArray.size := by
      have := (List.getElem?_eq_some_iff.mp hu).1
      simpa using this
    have hel : e < s.heap.objs.size := Heap.lt_size he
    have hil : it < s.heap.objs.size := by obtain ⟨_, q, _⟩ := hit; exact Heap.lt_size q
    refine wpAny_pyNext_enum_itemC (Draws.tuple (A := X.A.in1) (show X.A.in1.handled = none from I.ok.hd hc) it a hai its.toArray) he (i := i) ⟨hit, p⟩ hlt hne (by simp only [List.mem_cons, List.not_mem_nil, or_false, not_or]; exact ⟨hne, Ne.symm hae⟩) fun x' h' tk hx' ho hst' hT hsz hk => ?_
    have ex : x' = u := by
      have : its.toArray[i]? = some u := by simpa using hu
      exact Option.some.inj (hx'.symm.trans this)
    subst ex
    refine ⟨_, rfl, wpAny_letOwnedTupleGo_enum (s := { s with heap := h', toks := tk + 1 }) ho fun h'' he' sb => ?_⟩
    have hT2 : h''.get? s.heap.objs.size = some { cls := .type "tuple", data := .seq #[.int i tk, x'] } := (sb.2 _ (Nat.ne_of_gt hel)).trans hT
    have new : ObjOk X.prog X.w (upd H s.heap.objs.size (.tup [.int (i : Nat), x])) h'' s.heap.objs.size (.tup [.int (i : Nat), x]) :=
      ⟨by show 2 ≤ sizeLine; decide, [.int i tk, x'], .cons ⟨_, rfl⟩ (.cons ru .nil), ⟨_, hT2, rfl, _, rfl⟩⟩
    have I1 : Inv X pins σ (upd H s.heap.objs.size (.tup [.int (i : Nat), x])) { s with heap := h'', toks := tk + 1 } :=
      I.turnedNew (ch := [e, it]) (fun b ob hb q => (sb.2 b (fun z => hb (by simp [z]))).trans (hk b ob (fun z => hb (by simp [z])) (fun z => hb (by simp [z])) q)) hf (Nat.le_refl _) new
    refine ⟨.ref s.heap.objs.size, _, I1, rfl, ⟨_, x, rfl, I.hok.fresh (Nat.le_refl _), rfl, fun ys hy => by rw [I.tuple_inj hy hq]; exact hx⟩, ⟨⟨x', ?_⟩, hst'.1.at fun o q => (sb.2 it (Ne.symm hne)).trans q, hne⟩, fun b hb => ?_⟩
    · have e1 : ((i + 1 : Nat) : Int) = (i : Int) + 1 := by omega
      rw [e1]; exact he'
    · have hb' : b < s.heap.objs.size := by
        have e' : b = e ∨ b = it := by simpa using hb
        rcases e' with z | z
        · rw [z]; exact hel
        · rw [z]; exact hil
      rw [upd_ne (Nat.ne_of_lt hb')]
      exact (hf b hb).1
  done := by
    intro X hP hw hK hc i pins s σ H E I hf st hg
    subst hP hw hK
    obtain ⟨⟨old, he⟩, hit, hne⟩ := st
    obtain ⟨xs, hq, hx⟩ := hg
    obtain ⟨its, rv, p, hz⟩ := I.tuple hq
    obtain ⟨f0, f1, f2, f3, f4, f5⟩ := hf it (by simp)
    have hl := rv.length
    have hno : its.toArray[i]? = none := by simp; omega
    exact enumT_end (I.ok.hd hc) he hit p hno fun h' eb => ⟨rfl, I.turned (t' := s.toks) (fun b o hb q => eb b o hb q) f0 f1 f3 f4 f5⟩
  self := fun A i s Q E st h => let ⟨⟨_, he⟩, _⟩ := st; wpAny_pyIter_enum he h
def iEnumA (K : PySem.W.Frag) (ta : TA) : TI := fun σ H R => ta σ H fun vs H1 => ∃ a xs, vs = [.ref a] ∧ ((SqL K H1 a xs ∧ R (Ite K a) H1) ∨ (SqT K H1 a xs ∧ R (IteT K a) H1))
theorem pi_enumA {X : Cx} {e : Expr} {ta : TA} {p pos tpos : Pos} {elts : List Expr} {kk : Nat} (K : PySem.W.Frag) (hg : Gl X "enumerate") (hm : X.mg "enumerate" = none) (ha : PA X [e] ta) (hs : starEach [e] X.env = [(false, eval e X.env)] := by rfl) (hK : X.K = K := by rfl) :
    PI X (.Tuple elts kk tpos) (.Call (.Name "enumerate" p) [e] [] pos) (iEnumA K ta) := by
  subst hK
  refine ⟨fun pins s σ H R I h => ?_⟩
  refine Call_ (ld_blt I hg hm boot_enumerate (PyProof.Rows.callWith_type1 (thn (ha.run pos pins s σ H _ I h) fun us s1 ⟨vs, H1, I1, r1, q1⟩ => ?_) hs rfl))
  obtain ⟨a, xs, ex, q1⟩ := q1
  subst ex
  cases r1 with
  | cons r rr =>
    cases rr
    cases r
    have hle : ∀ b ∈ [s1.heap.objs.size + 1, s1.heap.objs.size], s1.heap.objs.size ≤ b := fun b hb => by
      have e' : b = s1.heap.objs.size + 1 ∨ b = s1.heap.objs.size := by simpa using hb
      rcases e' with z | z
      · rw [z]; exact Nat.le_add_right _ _
      · rw [z]; exact Nat.le_refl _
    rcases q1 with ⟨hq, q⟩ | ⟨hq, q⟩
    · obtain ⟨its, rv, p', hz⟩ := I1.list hq
      refine call_enumerate_list p'.isList fun h' he hit hsz hk => wpAny_pyIter_enum he ?_
      have I2 : Inv X pins σ H1 { s1 with heap := h' } := I1.kept (t' := s1.toks) hk
      exact ⟨s1.heap.objs.size + 1, [s1.heap.objs.size + 1, s1.heap.objs.size], _, _, H1, rfl, I2, turn_enum a (s1.heap.objs.size + 1) s1.heap.objs.size, ⟨⟨.none, he⟩, hit, Nat.succ_ne_self _⟩, fun b hb => I1.fpOk (hle b hb) (I1.hok.fresh (hle b hb)), q⟩
    · obtain ⟨its, rv, p', hz⟩ := I1.tuple hq
      refine enumT_call p' fun h' he hit hsz hk => wpAny_pyIter_enum he ?_
      have I2 : Inv X pins σ H1 { s1 with heap := h' } := I1.kept (t' := s1.toks) hk
      have hal : a < s1.heap.objs.size := by obtain ⟨o, ho, _⟩ := p'; exact Heap.lt_size ho
      exact ⟨s1.heap.objs.size + 1, [s1.heap.objs.size + 1, s1.heap.objs.size], _, _, H1, rfl, I2, turn_enumT a (s1.heap.objs.size + 1) s1.heap.objs.size (Nat.ne_of_lt hal) (Nat.ne_of_lt (Nat.lt_succ_of_lt hal)), ⟨⟨.none, he⟩, hit, Nat.succ_ne_self _⟩, fun b hb => I1.fpOk (hle b hb) (I1.hok.fresh (hle b hb)), q⟩
theorem walk_enumT {K : PySem.W.Frag} {a : Addr} {xs : List V} : Walk (IteT K a) xs.length (fun H => SqT K H a xs) (YPair (fun i => some (.int (i : Nat))) (fun i => xs[i]?)) := by
  refine ⟨fun i _ hi q => ⟨xs, xs[i], q, by simp [hi]⟩, fun _ q => ⟨xs, q, Nat.le_refl _⟩, fun i H v H' _ q y => ?_⟩
  obtain ⟨T, x, h1, h2, h3, h4⟩ := y
  exact ⟨T, .int (i : Nat), x, h1, h2, h3, rfl, h4 xs q⟩
/-! a sequence that is borrowed -/
theorem numbered_get {xs : List D} {i : Nat} {f : D} (e3 : xs[i]? = some f) : (numbered xs)[i]? = some (.tup [.int (i : Nat), f]) := by
  have hi := (List.getElem?_eq_some_iff.mp e3).1
  unfold numbered
  rw [List.getElem?_map, List.getElem?_range hi]
  show some (D.tup [.int (i : Nat), xs.getD i .non]) = _
  rw [show xs.getD i .non = f by simp [List.getD, e3]]
theorem numbered_len {xs : List D} : (numbered xs).length = xs.length := by simp [numbered]
section
variable {F : Fm} {δ : List SD} {M : Addr → Bool} {σ : L2.St} {H : Hp} {PX : List D → Prop} {ta : TA} {te : TE} {P : D → Prop}
end
end Pf

namespace Pf
open PySem L2 RZ PySem.Spec PyProof.Rows PySem.W PySem.Calls
/-! ### sorted of a list or a tuple of alike data -/
theorem sortS_core {prog : Program} {w : World} {A : Around} {E : Value → Shared → Prop} {s : Shared} {β : Type} {vs : List Value} {bs : List β} {enc : β → PyData} {R : Value → β → Prop} {l : Addr} {T : String} {o : Obj} {n : Nat} {Q : Value → Shared → Prop}
    (hT : T = "list" ∨ T = "tuple") (ho : s.heap.get? l = some o) (hc : o.cls = .type T) (hd : o.data = .seq vs.toArray n) (e : EachIs R vs bs) (er : EachIs (fun v b => ∃ as, Reads s.heap v (enc b) as) vs bs) (hal : AllAlike (bs.map enc)) (hk : Sortable (bs.map enc)) (hL : bs.length ≤ sizeLine)
    (hu : ∀ b, b ∈ bs → A.units + 2 + (enc b).depth < cLine)
    (h : ∀ (h1 h2 : Heap) (out : List Value) (ep : Nat), (∀ b o, s.heap.get? b = some o → h1.get? b = some o) → (∀ b o, h1.get? b = some o → h2.get? b = some o) → out.length = bs.length → EachIs R out (bs.mergeSort (dataLe false enc)) →
      h2.get? h1.objs.size = some (seqObj "list" out.toArray ep) → Q (.ref h1.objs.size) { s with heap := h2 }) :
    wpAny (model prog w) A (call (.builtin "sorted") [.ref l]) Q E s := by
  have hlen : vs.length = bs.length := e.length
  refine call_function_entry_kw kind_sorted plain_sorted entry_sorted (args_sorted1 _) ?_
  unfold Builtin.«sorted»
  refine wpAny_bind (m := checkCount "sorted" 1 1 _) (wpAny_pure ?_)
  refine wpAny_bind (wpAny_collect_seq l hT ho hc hd (fun h1 k1 => ?_) (by rw [List.size_toArray, hlen]; exact hL))
  have evs : vs.toArray.toList = vs := by simp
  rw [evs]
  refine wpAny_bind (wpAny_newList ?_ (by rw [hlen]; exact hL))
  have hat : (h1.push (seqObj "list" vs.toArray 0)).get? h1.objs.size = some (seqObj "list" vs.toArray 0) := Heap.get?_push_size _ rfl
  have kp : ∀ b o, h1.get? b = some o → (h1.push (seqObj "list" vs.toArray 0)).get? b = some o := fun b o q => Heap.get?_push_of_some _ q
  show wpAny _ _ _ _ _ { s with heap := h1.push (seqObj "list" vs.toArray 0) }
  refine wpAny_bind (wpAny_holding (wpAny_call_entry_kw slot_list_sort ⟨_, hat, rfl⟩ entry_list_sort ?body (args_list_sort _)))
  case body =>
    show wpAny (model prog w) A.in1.in1 (Builtin.«list.sort» ⟨[.ref h1.objs.size], []⟩) _ _ _
    have old : ∀ b o, h1.get? b = some o → (sortingHeap (h1.push (seqObj "list" vs.toArray 0)) h1.objs.size vs).get? b = some o := fun b o q =>
      sortingHeap_old (Nat.ne_of_lt (Heap.lt_size q)) (kp b o q)
    have er' : EachIs (fun v b => ∃ as, Reads (sortingHeap (h1.push (seqObj "list" vs.toArray 0)) h1.objs.size vs) v (enc b) as) vs bs := er.mono fun _ _ ⟨as, r⟩ => ⟨as, PyProof.Rows.Reads.keeps (fun b o q => old b o (k1 b o q)) r⟩
    refine list_sort_vals (κ := dataKind (sortingHeap (h1.push (seqObj "list" vs.toArray 0)) h1.objs.size vs) (bs.map enc)) (s := { s with heap := h1.push (seqObj "list" vs.toArray 0) }) hat (SortsAt.data (s := { s with heap := sortingHeap (h1.push (seqObj "list" vs.toArray 0)) h1.objs.size vs }) (each_map (R := fun v d => ∃ as, Reads (sortingHeap (h1.push (seqObj "list" vs.toArray 0)) h1.objs.size vs) v d as) enc er') hal hk (bound_map hu)) (by rw [hlen]; exact hL) ?_
    obtain ⟨ep, h3⟩ := sortedHeap_at (a := h1.objs.size) (vs := vs) (out := (sortVals (dataKind (sortingHeap (h1.push (seqObj "list" vs.toArray 0)) h1.objs.size vs) (bs.map enc)) false vs vs).toArray) hat
    refine ⟨_, rfl, wpAny_pure ⟨_, rfl, h h1 _ _ ep k1 (fun b o q => ?_) (by rw [sortVals_length false rfl]; exact hlen) (sortVals_data false e er' hal) h3⟩⟩
    have hlt := Heap.lt_size q
    exact sortedHeap_old (Nat.ne_of_lt hlt) (by rw [Heap.size_push]; exact Nat.lt_succ_of_lt hlt) |>.trans (kp b o q)
/-! as a rule of the layer -/
def rSortA (K : PySem.W.Frag) : List V → Hp → VK → Prop := fun vs H Q => ∃ (a : Addr) (xs : List V) (ps : List PyData), vs = [.ref a] ∧ (SqL K H a xs ∨ SqT K H a xs) ∧ DpAll K H xs ps ∧ AllAlike ps ∧ PySem.W.Sortable ps ∧ (∀ d ∈ ps, d.depth ≤ 60) ∧
  ∀ p, H p = none → Q (.ref p) (upd H p (.lst (((xs.zip ps).mergeSort (dataLe false Prod.snd)).map Prod.fst)))
theorem dpAll_len {K : PySem.W.Frag} {H : Hp} : ∀ {xs : List V} {ps : List PyData}, DpAll K H xs ps → xs.length = ps.length
  | _, _, .nil => rfl
  | _, _, .cons _ r => congrArg Nat.succ (dpAll_len r)
theorem each_zip : ∀ {xs : List V} {us : List Value} {ps : List PyData}, Vals xs us → xs.length = ps.length → EachIs (fun u (b : V × PyData) => RelV b.1 u) us (xs.zip ps)
  | _, _, [], .nil, _ => .nil
  | _, _, p :: ps, .nil, h => by cases h
  | _, _, [], .cons _ _, h => by cases h
  | _, _, p :: ps, .cons r rs, h => .cons r (each_zip rs (Nat.succ.inj h))
theorem vals_each : ∀ {us : List Value} {bs : List (V × PyData)}, EachIs (fun u (b : V × PyData) => RelV b.1 u) us bs → Vals (bs.map Prod.fst) us
  | _, _, .nil => .nil
  | _, _, .cons r rs => .cons r (vals_each rs)
theorem each_reads {X : Cx} {pins : List (Addr × Obj)} {σ : L2.St} {H : Hp} {s : Shared} (I : Inv X pins σ H s) : ∀ {xs : List V} {us : List Value} {ps : List PyData}, DpAll X.K H xs ps → Vals xs us → EachIs (fun u (b : V × PyData) => ∃ as, Reads s.heap u b.2 as) us (xs.zip ps)
  | _, _, _, .nil, .nil => .nil
  | _, _, _, .cons d ds, .cons r rs => .cons (Dp.reads I _ _ _ d r) (each_reads I ds rs)
theorem zip_snd {α β : Type} : ∀ {xs : List α} {ps : List β}, xs.length = ps.length → (xs.zip ps).map Prod.snd = ps
  | [], [], _ => rfl
  | _ :: xs, _ :: ps, h => by rw [List.zip_cons_cons, List.map_cons, zip_snd (Nat.succ.inj h)]
theorem cr_sortA {X : Cx} (K : PySem.W.Frag) (hu : X.A.units + 64 < cLine) (hK : X.K = K := by rfl) : CallR X (.builtin "sorted") (rSortA K) := by
  subst hK
  intro pins s σ H vs us Q I r h
  obtain ⟨a, xs, ps, rfl, hs, hp, hal, hso, hdp, q⟩ := h
  obtain ⟨u, rfl, ru⟩ := vals1 r
  obtain rfl : u = Value.ref a := ru
  have hl := dpAll_len hp
  have key : ∀ (T : String) (o : Obj) (n : Nat) (its : List Value), (T = "list" ∨ T = "tuple") → s.heap.get? a = some o → o.cls = .type T → o.data = .seq its.toArray n → Vals xs its → xs.length ≤ sizeLine → wpAny (model X.prog X.w) X.A (call (.builtin "sorted") [.ref a]) (EP X pins σ Q) X.xe s := by
    intro T o n its hT ho hc hd rv hz
    refine sortS_core (β := V × PyData) (enc := Prod.snd) (R := fun u b => RelV b.1 u) (bs := xs.zip ps) hT ho hc hd (each_zip rv hl) (each_reads I hp rv) (by rw [zip_snd hl]; exact hal) (by rw [zip_snd hl]; exact hso)
      (by rw [List.length_zip, hl, Nat.min_self, ← hl]; exact hz) (fun b hb => ?_) fun h1 h2 out ep k1 k2 hlen eo hnew => ?_
    · have hm : b.2 ∈ ps := by
        have := List.mem_map_of_mem (f := Prod.snd) hb
        rw [zip_snd hl] at this
        exact this
      have := hdp _ hm
      omega
    · have I1 : Inv X pins σ H { s with heap := h1 } := I.kept (t' := s.toks) k1
      have hv := vals_each eo
      have hlen2 : (((xs.zip ps).mergeSort (dataLe false Prod.snd)).map Prod.fst).length ≤ sizeLine := by
        rw [List.length_map, List.length_mergeSort, List.length_zip, hl, Nat.min_self, ← hl]
        exact hz
      exact ⟨.ref _, upd H h1.objs.size (.lst (((xs.zip ps).mergeSort (dataLe false Prod.snd)).map Prod.fst)), I1.laid (t' := s.toks) k2 (Nat.le_refl _) ⟨hlen2, out, ep, hv, hnew⟩, rfl, q _ (I1.hok.fresh (Nat.le_refl _))⟩
  rcases hs with hs | hs
  · obtain ⟨its, rv, ⟨o, n, ho, hc, _, hd⟩, hz⟩ := I.list hs
    exact key "list" o n its (.inl rfl) ho hc hd rv hz
  · obtain ⟨its, rv, ⟨o, ho, hc, n, hd⟩, hz⟩ := I.tuple hs
    exact key "tuple" o n its (.inr rfl) ho hc hd rv hz
/-! data as the library tells it -/
mutual
def pyd : D → PyData
  | .bl b => .bool b | .int i => .int i | .str x => .str x
  | .lst xs => .list (pydL xs) | .tup xs => .tuple (pydL xs)
  | _ => .none
def pydL : List D → List PyData
  | [] => []
  | x :: xs => pyd x :: pydL xs
end
mutual
/-- none, bools, ints, texts, lists and tuples of these -/
def plainD : D → Bool
  | .non => true | .bl _ => true | .int _ => true | .str _ => true
  | .lst xs => plainL xs | .tup xs => plainL xs
  | _ => false
def plainL : List D → Bool
  | [] => true
  | x :: xs => plainD x && plainL xs
end
theorem pydL_map : ∀ xs : List D, pydL xs = xs.map pyd
  | [] => by simp only [pydL, List.map_nil]
  | x :: xs => by simp only [pydL, List.map_cons, pydL_map xs]
mutual
theorem rep_dp {K : PySem.W.Frag} {H : Hp} : ∀ {v : V} {d : D}, Rep K H v d → plainD d = true → Dp K H v (pyd d)
  | _, _, .non, _ => by simp only [pyd]; exact .non
  | _, _, .bl b, _ => by simp only [pyd]; exact .bl b
  | _, _, .int i, _ => by simp only [pyd]; exact .int i
  | _, _, .str x, _ => by simp only [pyd]; exact .str x
  | _, _, .lst h r, p => by
    simp only [pyd]
    simp only [plainD] at p
    exact .lst (SqL.of h) (repL_dp r p)
  | _, _, .tup h r, p => by
    simp only [pyd]
    simp only [plainD] at p
    exact .tup h (repL_dp r p)
  | _, _, .dic _ _, p => by simp [plainD] at p
  | _, _, .ins _ _, p => by simp [plainD] at p
  | _, _, .ty _, p => by simp [plainD] at p
  | _, _, .adr _, p => by simp [plainD] at p
  | _, _, .exc _ _ _, p => by simp [plainD] at p
  | _, _, .fn _ _, p => by simp [plainD] at p
theorem repL_dp {K : PySem.W.Frag} {H : Hp} : ∀ {v : List V} {d : List D}, RepL K H v d → plainL d = true → DpAll K H v (pydL d)
  | _, _, .nil, _ => by simp only [pydL]; exact .nil
  | _, _, .cons h r, p => by
    simp only [pydL]
    simp only [plainL, Bool.and_eq_true] at p
    exact .cons (rep_dp h p.1) (repL_dp r p.2)
end
/-- the one order that sorted gives -/
def sortD (ds : List D) : List D := ds.mergeSort (dataLe false pyd)
structure SortOk (ds : List D) : Prop where
  pl : plainL ds = true
  al : AllAlike (ds.map pyd)
  so : PySem.W.Sortable (ds.map pyd)
  dp : ∀ d ∈ ds, (pyd d).depth ≤ 60
theorem repL_zip {K : PySem.W.Frag} {H : Hp} {xs : List V} {ds : List D} (r : RepL K H xs ds) : ∀ p ∈ xs.zip ds, Rep K H p.1 p.2 := by
  induction xs generalizing ds with
  | nil =>
    intro p hp
    simp at hp
  | cons x xs ih =>
    cases r with
    | cons h r =>
      intro p hp
      rw [List.zip_cons_cons] at hp
      rcases List.mem_cons.mp hp with e | hp
      · subst e
        exact h
      · exact ih r p hp
theorem repL_of_pairs {K : PySem.W.Frag} {H : Hp} : ∀ {L : List (V × D)}, (∀ p ∈ L, Rep K H p.1 p.2) → RepL K H (L.map Prod.fst) (L.map Prod.snd)
  | [], _ => .nil
  | p :: L, h => .cons (h p (by simp)) (repL_of_pairs fun q hq => h q (List.mem_cons_of_mem _ hq))
theorem repL_sort {K : PySem.W.Frag} {H : Hp} {xs : List V} {ds : List D} (r : RepL K H xs ds) : RepL K H (((xs.zip (ds.map pyd)).mergeSort (dataLe false Prod.snd)).map Prod.fst) (sortD ds) := by
  have e1 : xs.zip (ds.map pyd) = (xs.zip ds).map fun p => (p.1, pyd p.2) := by
    rw [List.zip_map_right]
    rfl
  have e2 : ((xs.zip ds).mergeSort (dataLe false fun p : V × D => pyd p.2)).map (fun p => (p.1, pyd p.2)) = ((xs.zip ds).map fun p => (p.1, pyd p.2)).mergeSort (dataLe false Prod.snd) :=
    sort_maps _ fun a _ b _ => rfl
  have e3 : ((xs.zip ds).mergeSort (dataLe false fun p : V × D => pyd p.2)).map Prod.snd = ((xs.zip ds).map Prod.snd).mergeSort (dataLe false pyd) :=
    sort_maps _ fun a _ b _ => rfl
  rw [e1, ← e2, List.map_map]
  rw [zip_snd r.length] at e3
  unfold sortD
  rw [← e3]
  exact repL_of_pairs fun p hp => repL_zip r p ((List.mergeSort_perm _ _).mem_iff.mp hp)
section
variable {F : Fm} {δ : List SD} {te : TE} {PL : List D → Prop}
theorem en_sorted (h : Ev F te δ fun d => ∃ xs, (d = .lst xs ∨ d = .tup xs) ∧ SortOk xs ∧ PL (sortD xs)) : EvN F (tCB (rSortA F.K) (tCons te tNil)) δ PL := fun M σ H Q c q =>
  h M σ H _ c fun v d H1 p c1 e1 r => by
    obtain ⟨xs, hd', ok, pz⟩ := p
    have key : ∀ (a : Addr) (vs : List V), (SqL F.K H1 a vs ∨ SqT F.K H1 a vs) → RepL F.K (hd M H1) vs xs → rSortA F.K [.ref a] H1 Q := fun a vs hs hr => by
      refine ⟨a, vs, xs.map pyd, rfl, hs, ?_, ok.al, ok.so, fun d hd => ?_, fun p hp => ?_⟩
      · rw [← pydL_map]
        exact repL_dp (hr.mono (same_hd M H1)) ok.pl
      · obtain ⟨x, hx, rfl⟩ := List.mem_map.mp hd
        exact ok.dp x hx
      have hp0 : H p = none := by
        cases z : H p with
        | none => rfl
        | some o =>
          have := e1 p o (c1.nob hp) z
          rw [hp] at this
          cases this
      refine q p _ (sortD xs) _ pz (c1.hide hp) hp0 (c1.h0 hp) (c1.nob hp) (c1.nown hp) (e1.trans (StepB.of (same_new hp))) upd_same ((repL_sort hr).mono fun b u e => ?_)
      obtain ⟨m, h⟩ := hd_of e
      have n : b ≠ p := ne_of_none h hp
      exact hd_at (by rw [hid_ne n]; exact m) (by rw [upd_ne n]; exact h)
    rcases hd' with rfl | rfl
    · cases r with
      | lst h1 h2 => exact key _ _ (.inl (SqL.of (hd_of h1).2)) h2
    · cases r with
      | tup h1 h2 => exact key _ _ (.inr (same_tup (same_hd M H1) h1)) h2
end
end Pf

namespace Pf
open PySem L2 RZ PySem.Spec PyProof.Rows
/-! ### dicts -/
def valD (kvs : List (Key × D)) (k : Key) : Option D := (kvs.find? fun kv => decide (kv.1 = k)).map (·.2)
def putD (kvs : List (Key × D)) (k : Key) (v : D) : List (Key × D) :=
  if (kvs.any fun kv => decide (kv.1 = k)) = true then kvs.map (fun kv => if kv.1 = k then (kv.1, v) else kv) else kvs ++ [(k, v)]
section
variable {K : PySem.W.Frag} {H : Hp}
theorem RepK.val : ∀ {vs : List (Key × V)} {ds : List (Key × D)} (k : Key), RepK K H vs ds → (valD ds k = none → valV vs k = none) ∧ ∀ d, valD ds k = some d → ∃ v, valV vs k = some v ∧ Rep K H v d
  | _, _, k, .nil => ⟨fun _ => rfl, fun d h => by simp [valD] at h⟩
  | _, _, k, .cons (k := k0) (v := v0) (vs := vs) (d := d0) (ds := ds) h r => by
    by_cases e : k0 = k
    · subst e
      refine ⟨fun h => by simp [valD] at h, fun d hd => ⟨v0, by simp [valV], ?_⟩⟩
      have : d0 = d := by simpa [valD] using hd
      rw [← this]
      exact h
    · have e1 : valV ((k0, v0) :: vs) k = valV vs k := by simp [valV, List.find?_cons, e]
      have e2 : valD ((k0, d0) :: ds) k = valD ds k := by simp [valD, List.find?_cons, e]
      rw [e1, e2]
      exact RepK.val k r
theorem RepK.any : ∀ {vs : List (Key × V)} {ds : List (Key × D)} (k : Key), RepK K H vs ds → (vs.any fun kv => decide (kv.1 = k)) = (ds.any fun kv => decide (kv.1 = k))
  | _, _, k, .nil => rfl
  | _, _, k, .cons h r => by rw [List.any_cons, List.any_cons, RepK.any k r]
theorem RepK.length : ∀ {vs : List (Key × V)} {ds : List (Key × D)}, RepK K H vs ds → vs.length = ds.length
  | _, _, .nil => rfl
  | _, _, .cons _ r => congrArg Nat.succ (RepK.length r)
theorem RepK.snoc : ∀ {vs : List (Key × V)} {ds : List (Key × D)} {k : Key} {v : V} {d : D}, RepK K H vs ds → Rep K H v d → RepK K H (vs ++ [(k, v)]) (ds ++ [(k, d)])
  | _, _, k, v, d, .nil, h => .cons h .nil
  | _, _, k, v, d, .cons h0 r, h => .cons h0 (RepK.snoc r h)
theorem RepK.repl : ∀ {vs : List (Key × V)} {ds : List (Key × D)} (k : Key) {v : V} {d : D}, RepK K H vs ds → Rep K H v d → RepK K H (vs.map fun kv => if kv.1 = k then (kv.1, v) else kv) (ds.map fun kv => if kv.1 = k then (kv.1, d) else kv)
  | _, _, k, v, d, .nil, h => .nil
  | _, _, k, v, d, .cons (k := k0) h0 r, h => by
    rw [List.map_cons, List.map_cons]
    by_cases e : k0 = k
    · simp only [e, if_true]
      exact .cons h (RepK.repl k r h)
    · simp only [e, if_false]
      exact .cons h0 (RepK.repl k r h)
theorem RepK.put {vs : List (Key × V)} {ds : List (Key × D)} {k : Key} {v : V} {d : D} (r : RepK K H vs ds) (h : Rep K H v d) : RepK K H (putK vs k v) (putD ds k d) := by
  unfold putK putD
  rw [RepK.any k r]
  by_cases e : (ds.any fun kv => decide (kv.1 = k)) = true
  · rw [if_pos e, if_pos e]
    exact RepK.repl k r h
  · rw [if_neg e, if_neg e]
    exact RepK.snoc r h
end
section
variable {F : Fm} {δ : List SD} {te tv td ty : TE} {P : D → Prop} {R : PD} {tt : TT}
end
/-! ### instances -/
def putFD (f : Str) (v : D) : List (Str × D) → List (Str × D)
  | [] => [(f, v)]
  | (g, x) :: r => if g = f then (g, v) :: r else (g, x) :: putFD f v r
theorem RepF.put {K : PySem.W.Frag} {H : Hp} {f : Str} {v : V} {d : D} (h : Rep K H v d) : ∀ {vs : List (Str × V)} {ds : List (Str × D)}, RepF K H vs ds → RepF K H (putF f v vs) (putFD f d ds)
  | _, _, .nil => .cons h .nil
  | _, _, .cons (k := k) h0 r => by
    unfold putF putFD
    by_cases e : k = f
    · rw [if_pos e, if_pos e]
      exact .cons h r
    · rw [if_neg e, if_neg e]
      exact .cons h0 (RepF.put h r)
theorem RepF.length {K : PySem.W.Frag} {H : Hp} : ∀ {vs : List (Str × V)} {ds : List (Str × D)}, RepF K H vs ds → vs.length = ds.length
  | _, _, .nil => rfl
  | _, _, .cons _ r => congrArg Nat.succ (RepF.length r)
section
variable {F : Fm} {δ : List SD} {ta : TA} {te tv : TE} {P : D → Prop} {R : PD} {C : Addr} {f : Str} {E : XK}
theorem do_fset {i : Nat} {p : Addr} {fs : List (Str × D)} (hi : δ[i]? = some (.own p (.ins C fs))) (cl : Cls F.K C) (na : NoAttr F.K C f) (hl : fs.length < 1000) (h : Ev F tv δ fun v => R.nx (δ.set i (.own p (.ins C (putFD f v fs))))) :
    Do F (sFld F.K (tVar i) tv f) δ R := fun M σ H E c a b k d => by
  refine h M σ H _ c fun v x H1 p1 c1 e1 r1 => ?_
  obtain ⟨s, hs, e, m, ho, hp, rr⟩ := c1.sl i _ hi
  subst e
  cases rr with
  | @ins _ dx vs _ rr =>
    refine ⟨_, hs, p, C, dx, vs, rfl, hp, cl, na, by rw [rr.length]; exact hl, ?_⟩
    refine a M σ _ _ p1 (c1.put hi (.ins (rr.put r1))) ?_
    rw [hd_upd m]
    exact hd_step c e1
theorem ev_fld (cl : Cls F.K C) (na : NoAttr F.K C f) (h : Ev F te δ fun x => ∃ fs d, x = .ins C fs ∧ fs.lookup f = some d ∧ P d) : Ev F (tFld F.K te f) δ P := fun M σ H Q c q =>
  h M σ H _ c fun v x H1 p1 c1 e1 r1 => by
    obtain ⟨fs, d, rfl, hd', p1⟩ := p1
    cases r1 with
    | @ins a _ dx vs _ h1 rr =>
      obtain ⟨u, g1, g2⟩ := rr.get hd'
      exact ⟨a, C, dx, vs, u, rfl, (hd_of h1).2, cl, na, g1, q u d H1 p1 c1 e1 g2⟩
theorem same_made {H1 : Hp} {x dx : Addr} {C : Addr} (hx : H1 x = none) (hdx : H1 dx = none) : Same H1 (upd (upd H1 dx (.own x)) x (.ins C dx [])) := fun a o e => by
  rw [upd_ne (ne_of_none e hx), upd_ne (ne_of_none e hdx)]
  exact e
end
/-! ### into an __init__ -/
def slotsI (N : List Str) (x : Addr) (C : Addr) (ds : List SD) : List SD := .own x (.ins C []) :: (ds ++ List.replicate (N.length - (ds.length + 1)) .un)
theorem al_of_none {M : Addr → Bool} {H : Hp} {p : Addr} (al : Al M H) (hp : H p = none) : M p = false := by
  cases e : M p with
  | true =>
    obtain ⟨u, h⟩ := al p e
    rw [hp] at h
    cases h
  | false => rfl
/-- what the slots behind the first bear -/
theorem ctxI {K : PySem.W.Frag} {M : Addr → Bool} {H1 : Hp} {x dx C : Addr} {E : XK} {N : List Str} {ws : List V} {sds : List SD} (hx : H1 x = none) (hdx : H1 dx = none) (ne : dx ≠ x) (al : Al M H1) (hl : ws.length = sds.length)
    (hs : ∀ (i : Nat) (y : SD), sds[i]? = some y → ∃ v, ws[i]? = some v ∧ SlotOk ⟨K, none, M, H1, E, 0, []⟩ (hid M x) (upd (upd H1 dx (.own x)) x (.ins C dx [])) (some v) y) (hn : ∀ (i : Nat) (y : SD) (p : Addr), sds[i]? = some y → p ∉ y.ads) :
    Ctx ⟨K, none, M, H1, E, 0, []⟩ (hid M x) (L2.start N (.ref x :: ws)) (upd (upd H1 dx (.own x)) x (.ins C dx [])) (slotsI N x C sds) := by
  have s1 := same_made (C := C) hx hdx
  have key : ∀ (i : Nat) (y : SD), (sds ++ List.replicate (N.length - (sds.length + 1)) .un)[i]? = some y → (∃ v, (ws.map some ++ List.replicate (N.length - (ws.length + 1)) none)[i]? = some v ∧ SlotOk ⟨K, none, M, H1, E, 0, []⟩ (hid M x) (upd (upd H1 dx (.own x)) x (.ins C dx [])) v y) ∧ ∀ p, p ∉ y.ads := fun i y h => by
    by_cases hi : i < sds.length
    · rw [List.getElem?_append_left hi] at h
      obtain ⟨v, g1, g2⟩ := hs i y h
      refine ⟨⟨some v, ?_, g2⟩, fun p hp => hn i y p h hp⟩
      rw [List.getElem?_append_left (by rw [List.length_map, hl]; exact hi), List.getElem?_map, g1]
      rfl
    · have hi := Nat.le_of_not_lt hi
      rw [List.getElem?_append_right hi] at h
      have hy : y = .un := List.eq_of_mem_replicate (List.mem_of_getElem? h)
      have hlt := (List.getElem?_eq_some_iff.mp h).1
      rw [List.length_replicate] at hlt
      subst hy
      refine ⟨⟨none, ?_, trivial⟩, fun p hp => by cases hp⟩
      rw [List.getElem?_append_right (by rw [List.length_map, hl]; exact hi), List.length_map, hl, List.getElem?_replicate, if_pos hlt]
  refine ⟨fun a m => ?_, al, fun a m => hid_le a m, StepB.of s1, ⟨fun b z => (nomatch z), fun a h => (nomatch h)⟩, ?_, fun i y h => ?_, fun i j y z p h1 h2 hp hq => ?_, fun i y p h hp => ?_⟩
  · by_cases e : a = x
    · subst e
      exact ⟨_, upd_same⟩
    · rw [hid_ne e] at m
      obtain ⟨o, h⟩ := al a m
      exact ⟨o, s1 _ _ h⟩
  · unfold L2.start slotsI
    simp only [List.length_append, List.length_cons, List.length_map, List.length_replicate, hl]
    omega
  · unfold slotsI at h
    unfold L2.start
    cases i with
    | zero =>
      have e : SD.own x (.ins C []) = y := by simpa using h
      subst e
      exact ⟨_, rfl, rfl, hid_same, _, upd_same, .ins .nil⟩
    | succ i =>
      obtain ⟨⟨v, g1, g2⟩, _⟩ := key i y (by simpa using h)
      exact ⟨v, by simpa using g1, g2⟩
  · unfold slotsI at h1 h2
    cases i with
    | zero =>
      cases j with
      | zero => rfl
      | succ j => exact absurd hq ((key j _ (by simpa using h2)).2 _)
    | succ i => exact absurd hp ((key i _ (by simpa using h1)).2 _)
  · unfold slotsI at h
    cases i with
    | zero =>
      have e : SD.own x (.ins C []) = y := by simpa using h
      subst e
      rw [List.mem_singleton.mp hp]
      exact ⟨hx, mv_none rfl rfl _⟩
    | succ i => exact absurd hp ((key i _ (by simpa using h)).2 _)
theorem hid_mono {M : Addr → Bool} {H1 H : Hp} {x : Addr} (hx : H1 x = none) (s : Same H1 H) : Same (hd M H1) (hd (hid M x) H) := fun a o e => by
  obtain ⟨m, h⟩ := hd_of e
  exact hd_at (by rw [hid_ne (ne_of_none h hx)]; exact m) (s _ _ h)
section
variable {K : PySem.W.Frag} {N : List Str} {vs : List V} {H : Hp} {Q : VK} {E : XK} {t : TS} {C : Addr}
theorem leaveI {M M' : Addr → Bool} {H1 H' : Hp} {x : Addr} {σ' : L2.St} {δ' : List SD} {fs : List (Str × D)} (hx : H1 x = none) (al : Al M H1) (c' : Ctx ⟨K, none, M, H1, E, 0, []⟩ M' σ' H' δ') (h0 : δ'[0]? = some (.own x (.ins C fs))) :
    Same H1 H' ∧ Rep K (hd M H') (.ref x) (.ins C fs) := by
  refine ⟨fun a o h => c'.fr a o (mv_none rfl rfl a) h, ?_⟩
  obtain ⟨s, h1, e, m, ho, hp, r⟩ := c'.sl 0 _ h0
  exact (r.mono (same_hd_le fun a h => c'.m0 a h)).rep (hd_at (al_of_none al hx) hp)
end
end Pf

namespace Pf
open PySem L2 RZ PySem.Spec PyProof.Rows PySem.SeqAt
/-! ### len, bool, repr, == and != by defs of one's own -/
section
variable {M : Model} {prog : Program} {w : World} {A : Around} {E : Value → Shared → Prop} {s : Shared} {K : PySem.W.Frag} {x C f : Addr} {ox : Obj} {od : Option Obj} {b tb : Value}
end
/-! as rules of the layer -/
def rOwn1 (C : Addr) (sp : Sp) (E : XK) (ok : V → Prop) : List V → Hp → VK → Prop := fun xs H Q => ∃ a dx fs, xs = [.ref a] ∧ H a = some (.ins C dx fs) ∧ sp [.ref a] H (fun v H' => ok v ∧ Q v H') E
def okLen (v : V) : Prop := ∃ n : Int, v = .int n ∧ 0 ≤ n ∧ n < 2 ^ 63
section
variable {X : Cx} {CX : CXT} {n : Nat} {C g : Addr} {sp : Sp} {E : XK}
theorem call_lenOwn (hs : PySem.W.findIn X.K (.ref C) "__len__" = some (some (.ref g))) (hf : PySem.W.isFn X.K (.ref g) = true) (F : FnR X.prog X.w X.K X.mg X.base CX n g sp) (hr : Room (n + 1) X.A) (hx : Passes CX X E) : CallR X (.builtin "len") (rOwn1 C sp E okLen) := by
  intro pins s σ H xs us Q I r h
  obtain ⟨a, dx, fs, rfl, ea, q⟩ := h
  obtain ⟨u, rfl, ru⟩ := r.one
  cases (show u = Value.ref a from ru)
  obtain ⟨mA, O, _⟩ := ins_get I.hok ea
  obtain ⟨od, J, _⟩ := O.look
  obtain ⟨m, hF⟩ := I.fr
  refine PySem.W.len_K hF I.ok.mod.kin J hs hf (wpAny_mono (wpAny_call (SlX.run_at (us := [.ref a]) (ws := [.ref a]) F (Room.in1 hr) I.env0.in1 hx I (.cons rfl .nil) q)) (fun w s' z => ?_) fun _ _ x => x)
  obtain ⟨v, H', I', rv, ⟨i, rfl, h0, h1⟩, qv⟩ := z
  obtain ⟨t, rfl⟩ := (show ∃ t, w = Value.int i t from rv)
  exact ⟨⟨h0, h1⟩, .int i, H', I'.tok _, ⟨_, rfl⟩, qv⟩
end
/-! on data -/
/-- what of its class an instance is asked -/
structure ClsF (K : PySem.W.Frag) (C : Addr) : Prop where
  cl : Cls K C
  ca : PySem.W.findIn K (.ref C) "__class__" = some (some (.builtin "object.__class__"))
  cn : PySem.W.specialIn K (.builtin "object.__class__") "__get__" = some (some (.builtin "getset_descriptor.__get__"))
  ct : PySem.W.takesIn K (.builtin "object.__class__") = some true
  cm : PySem.W.mroIn K C (.type "object") = some true
theorem ClsF.ty {K : PySem.W.Frag} {C a dx : Addr} {H : Hp} {fs : List (Str × V)} (c : ClsF K C) (e : H a = some (.ins C dx fs)) : TyX K H (.ref a) (.ref C) := .base (.ins e c.cl c.ca c.cn c.ct c.cm)
section
variable {K : PySem.W.Frag} {C : Addr} {E : XK} {Pre : List D → Prop} {Post : List D → D → Prop} {P : D → Prop} {fs gs : List (Str × D)} {y : D}
theorem rep_ins {H : Hp} {v : V} (r : Rep K H v (.ins C fs)) : ∃ a dx us, v = .ref a ∧ H a = some (.ins C dx us) := by
  cases r with
  | @ins a _ dx us _ h1 rr => exact ⟨a, dx, us, rfl, h1⟩
theorem cd_lenOwn (pre : Pre [.ins C fs]) (po : ∀ d, Post [.ins C fs] d → ∃ n : Int, d = .int n ∧ 0 ≤ n ∧ n < 2 ^ 63 ∧ P d) : CallD K (rOwn1 C (spD K Pre Post) E okLen) [.ins C fs] P := fun M H vs Q al r q => by
  cases r with
  | cons r1 r2 =>
    cases r2
    obtain ⟨a, dx, us, rfl, h1⟩ := rep_ins r1
    refine ⟨a, dx, us, rfl, (hd_of h1).2, M, _, al, .cons r1 .nil, pre, fun v d H' pd s rv => ?_⟩
    obtain ⟨n, rfl, h0, h1, pp⟩ := po d pd
    cases rv
    exact ⟨⟨n, rfl, h0, h1⟩, q _ _ H' pp s (.int n)⟩
end
/-! methods and properties -/
section
variable {F : Fm} {δ : List SD} {ta : TA} {te : TE} {P : D → Prop} {C : Addr} {m : Str} {Pre : List D → Prop} {Post : List D → D → Prop} {E : XK}
theorem ev_prop (h : Ev F te δ fun x => ∃ fs, x = .ins C fs ∧ Pre [x] ∧ ∀ d, Post [x] d → P d) : Ev F (tProp C (spD F.K Pre Post) [] E te) δ P := fun M σ H Q c q =>
  h M σ H _ c fun v x H1 p1 c1 e1 r1 => by
    obtain ⟨fs, rfl, pre, po⟩ := p1
    have hr := r1
    cases r1 with
    | @ins a _ dx us _ h1 rr =>
      exact ⟨a, dx, us, rfl, (hd_of h1).2, M, _, c1.al, .cons hr .nil, pre, fun v d H3 pd s r3 => q v d H3 (po d pd) (c1.same s) (e1.trans (StepB.of s)) r3⟩
/-- a method that makes a new list -/
def spN (K : PySem.W.Frag) (Pre : List D → Prop) (Post : List D → List D → Prop) : Sp := fun vs H Q _ => ∃ (M : Addr → Bool) (ds : List D), Al M H ∧ RepL K (hd M H) vs ds ∧ Pre ds ∧
  ∀ p us es H', Post ds es → H p = none → Same H H' → H' p = some (.lst us) → RepL K (hd (hid M p) H') us es → Q (.ref p) H'
/-- p, new, is hidden -/
theorem Ctx.take {M : Addr → Bool} {σ : L2.St} {H H' : Hp} (c : Ctx F M σ H δ) {p : Addr} {us : List V} (hp : H p = none) (s : Same H H') (h : H' p = some (.lst us)) : Ctx F (hid M p) σ H' δ := by
  have c' := c.same s
  have ne : ∀ a, F.M0 a = true → a ≠ p := fun a m e => by
    subst e
    obtain ⟨o, h⟩ := c.al0 _ m
    have := c.h0 hp
    rw [h] at this
    cases this
  refine ⟨fun a m => ?_, c.al0, fun a m => hid_le a (c.m0 a m), c'.fr, ⟨c'.bg.1, fun r z => (c'.bg.2 r z).imp id fun t => ⟨t.1, fun a φ m y => ?_⟩⟩, c.ln, fun i x hx => ?_, c.dj, c.oh⟩
  rotate_left
  · by_cases e : a = p
    · rw [e, h] at y
      cases y
    · rw [hid_ne e] at m
      exact t.2 a φ m y
  rotate_right
  · by_cases e : a = p
    · subst e
      exact ⟨_, h⟩
    · rw [hid_ne e] at m
      exact c'.al a m
  · have hs : Same (hd M H) (hd (hid M p) H') := hid_mono hp s
    obtain ⟨y, h1, h2⟩ := c.sl i x hx
    refine ⟨y, h1, ?_⟩
    cases x with
    | un => trivial
    | dat d =>
      obtain ⟨v, e, r⟩ := h2
      exact ⟨v, e, r.mono hs⟩
    | own q ds =>
      obtain ⟨e, m, vs, h3, r⟩ := h2
      exact ⟨e, hid_le q m, vs, s _ _ h3, r.mono hs⟩
    | bag => exact h2
    | sq ds =>
      obtain ⟨q, vs, g1, g2, g3, g4⟩ := h2
      exact ⟨q, vs, g1, g2, g3, g4.mono hs⟩
    | sl ds =>
      obtain ⟨q, vs, g1, g2, g3, g4⟩ := h2
      exact ⟨q, vs, g1, g2, g3, g4.mono hs⟩
    | oll q qs => exact ⟨h2.1, h2.2.mono (fun a m _ => hid_le a m) (fun a o _ _ _ h => s a o h) hs⟩
    | sto d Ω => exact ⟨h2.1.imp fun v h => ⟨h.1, h.2.mono hs⟩, h2.2.1, h2.2.2.mono (fun q _ m => hid_le q.1 m) (fun q _ o _ h => s q.1 o h) hs⟩
    | stR d Ω => exact ⟨h2.1.imp fun v h => ⟨h.1, h.2.mono hs⟩, h2.2.1, h2.2.2.mono (fun q _ m => hid_le q.1 m) (fun q _ o _ h => s q.1 o h) hs⟩
theorem en_meth {PostN : List D → List D → Prop} {PL : List D → Prop} (h : Ev F te δ fun x => ∃ fs, x = .ins C fs ∧ fs.lookup m = none ∧ EvA F ta δ fun ds => Pre (x :: ds) ∧ ∀ d, PostN (x :: ds) d → PL d) : EvN F (tMeth C m (spN F.K Pre PostN) [] E te ta) δ PL := fun M σ H Q c q =>
  h M σ H _ c fun v x H1 p1 c1 e1 r1 => by
    obtain ⟨fs, rfl, hm, p1⟩ := p1
    have hr := r1
    cases r1 with
    | @ins a _ dx us _ h1 rr =>
      refine ⟨a, dx, us, rfl, (hd_of h1).2, rr.none hm, ?_⟩
      refine p1 M σ H1 _ c1 fun vs ds H2 p2 c2 e2 r2 => ?_
      rw [List.append_nil]
      refine ⟨M, _, c2.al, .cons (hr.mono (hd_step c1 e2)) r2, p2.1, fun p us es H3 pd hp s h3 r3 => ?_⟩
      have hp0 : H p = none := by
        cases z : H p with
        | none => rfl
        | some o =>
          have := (e1.trans e2) p o (c2.nob hp) z
          rw [hp] at this
          cases this
      exact q p us es H3 (p2.2 es pd) (c2.take hp s h3) hp0 (c2.h0 hp) (c2.nob hp) (c2.nown hp) ((e1.trans e2).trans (StepB.of s)) h3 r3
theorem do_dropClear {R : PD} {PL : List D → Prop} (h : EvN F te δ PL) (hx : R.nx δ) : Do F (tDrop (tBM0 F.K "list" rClear te)) δ R := fun M σ H E c a b k d => by
  refine h M σ H _ c fun p vs ds H1 pd c1 hp h0 hb no e h1 r => ?_
  refine ⟨.inl ⟨rfl, vs, SqL.of h1⟩, p, vs, rfl, rfl, h1, ?_⟩
  have c3 := c1.poke (ys := .lst []) hid_same h1 h0 hb no
  have m := al_none c.al hp
  have c4 := c3.show' m h0 no
  refine a M σ _ δ hx c4 (fun x o q => ?_)
  obtain ⟨mx, hx'⟩ := hd_of q
  have nx : x ≠ p := ne_of_none hx' hp
  have nb : ¬ F.mv x := fun z => by
    have := c.m0 x (z.elim (fun z => (c.bg.1 x z).1) fun ⟨r, z, e⟩ => e ▸ (c.bg.2 r z).1)
    rw [mx] at this
    cases this
  exact hd_at mx (by rw [upd_ne nx]; exact e x o nb hx')
end
section
variable {K : PySem.W.Frag} {N : List Str} {vs : List V} {H : Hp} {Q : VK} {E : XK} {te : TE} {t : TS} {Pre : List D → Prop} {Post : List D → List D → Prop}
theorem enterN (hs : spN K Pre Post vs H Q E) (hb : ∀ (M : Addr → Bool) (ds : List D), Pre ds → ds.length = vs.length → Do ⟨K, none, M, H, E, 0, []⟩ t (slots N ds) { nx := fun δ' => EvN ⟨K, none, M, H, E, 0, []⟩ te δ' (Post ds) }) :
    tSeq t (tRet te) { nx := fun _ H' => Q .non H', rt := Q } (L2.start N vs) H := by
  obtain ⟨M, ds, al, r, pre, q⟩ := hs
  have hl := r.length
  have c : Ctx ⟨K, none, M, H, E, 0, []⟩ M (L2.start N vs) H (slots N ds) := by
    refine ⟨al, al, fun _ h => h, StepB.refl _ _, ⟨fun b z => (nomatch z), fun a h => (nomatch h)⟩, ?_, ?_, fun i j x y p h1 h2 hp _ => absurd hp (no_own h1), fun i x p h hp => absurd hp (no_own h)⟩
    · unfold L2.start slots
      rw [List.length_append, List.length_append, List.length_map, List.length_map, List.length_replicate, List.length_replicate, hl]
    · unfold L2.start slots
      rw [hl]
      exact sl_base rfl _ r
  refine hb M ds pre hl.symm M _ H _ c (fun M' σ' H' δ' p c' s => ?_) (fun _ _ _ _ _ _ p => p.elim) (fun _ _ _ _ p => p.elim) (fun _ _ _ _ p => p.elim)
  refine p M' σ' H' _ c' fun p' us es H2 pd c2 hp h0 hb' no e h1 r2 => ?_
  have h0' : H p' = none := h0
  refine q p' us es H2 pd h0' (fun a o h => c2.fr a o (mv_none rfl rfl a) h) h1 (r2.mono (same_hd_le fun a h => ?_))
  by_cases ea : a = p'
  · subst ea
    exact hid_same
  · rw [hid_ne ea] at h ⊢
    exact c'.m0 a h
theorem enterN1 (hs : spN K Pre Post vs H Q E) (hb : ∀ (M : Addr → Bool) (ds : List D), Pre ds → ds.length = vs.length → EvN ⟨K, none, M, H, E, 0, []⟩ te (slots N ds) (Post ds)) :
    tRet te { nx := fun _ H' => Q .non H', rt := Q } (L2.start N vs) H := by
  have := enterN (t := tNext) (te := te) hs (fun M ds pre hl => do_next (hb M ds pre hl))
  exact this
end
end Pf

namespace Pf
open PySem L2 RZ
/-! ### the layer's rules with the written part K named: in a comprehension's block its name would be the block's -/
section
variable {X : Cx} {tg e e2 o value : Expr} {te to ta tv : TE} {t : TA} {pos p apos cpos : Pos}
theorem ixL (K : PySem.W.Frag) (h : X.K = K := by rfl) : IxR X (rIxL K) := by subst h; exact ix_list
theorem ixT (K : PySem.W.Frag) (h : X.K = K := by rfl) : IxR X (rIxT K) := by subst h; exact ix_tup
theorem ixA (K : PySem.W.Frag) (h : X.K = K := by rfl) : IxR X (rIx K) := by subst h; exact ix_seq
theorem slL (K : PySem.W.Frag) (h : X.K = K := by rfl) : SlR X (rSlL K) := by subst h; exact sl_list
def rLenK (K : PySem.W.Frag) : List V → Hp → VK → Prop := fun xs H Q => ∃ x n, xs = [x] ∧ LenV K x H n ∧ Q (.int (n : Nat)) H
theorem callLen (K : PySem.W.Frag) (h : X.K = K := by rfl) : CallR X (.builtin "len") (rLenK K) := by subst h; exact call_len
theorem callIsi (K : PySem.W.Frag) (h : X.K = K := by rfl) : CallR X (.builtin "isinstance") (rIsi K) := by subst h; exact call_isi
theorem callIsiT (K : PySem.W.Frag) (h : X.K = K := by rfl) : CallR X (.builtin "isinstance") (rIsiT K) := by subst h; exact call_isiT
def rListK (K : PySem.W.Frag) : List V → Hp → VK → Prop := fun xs H Q => ∃ p ys, xs = [.ref p] ∧ (SqL K H p ys ∨ SqT K H p ys) ∧ ∀ l, H l = none → Q (.ref l) (upd H l (.lst ys))
theorem callList (K : PySem.W.Frag) (h : X.K = K := by rfl) : CallR X (.type "list") (rListK K) := by subst h; exact call_list_of
def rTupleK (K : PySem.W.Frag) : List V → Hp → VK → Prop := fun xs H Q => ∃ p ys, xs = [.ref p] ∧ ((SqL K H p ys ∧ ∀ l, H l = none → Q (.ref l) (upd H l (.tup ys))) ∨ (SqT K H p ys ∧ Q (.ref p) H))
theorem callTuple (K : PySem.W.Frag) (h : X.K = K := by rfl) : CallR X (.type "tuple") (rTupleK K) := by subst h; exact call_tuple_of
theorem callAll (K : PySem.W.Frag) (hc : X.calm = true := by rfl) (h : X.K = K := by rfl) : CallR X (.builtin "all") (rAll K) := by subst h; exact cr_all hc
theorem callAny (K : PySem.W.Frag) (hc : X.calm = true := by rfl) (h : X.K = K := by rfl) : CallR X (.builtin "any") (rAny K) := by subst h; exact cr_any hc
theorem opIn (K : PySem.W.Frag) (h : X.K = K := by rfl) : OpR X (compareOp .In) (rIn K false) := by subst h; exact op_in_seq
theorem opNotIn (K : PySem.W.Frag) (h : X.K = K := by rfl) : OpR X (compareOp .NotIn) (rIn K true) := by subst h; exact op_notIn_seq
theorem opEqD (K : PySem.W.Frag) (hu : X.A.units + 64 < cLine) (h : X.K = K := by rfl) : OpR X (compareOp .Eq) (rEqD K) := by subst h; exact op_eqD hu
theorem piL (K : PySem.W.Frag) (hl : PE X e te) (h : X.K = K := by rfl) : PI X tg e (iList K te) := by subst h; exact pi_list hl
theorem piT (K : PySem.W.Frag) (hl : PE X e te) (h : X.K = K := by rfl) : PI X tg e (iTup K te) := by subst h; exact pi_tup hl
theorem pgTup (K : PySem.W.Frag) {es : List Expr} {k : Nat} {ts : TGs} {n : Nat} (hc : X.calm = true) (hh : PGs X es ts)
    (hn : (assignEach es X.env).length = n := by rfl) (hst : (assignEach es X.env).findIdx? (·.1) = none := by rfl) (h : X.K = K := by rfl) : PG X (.Tuple es k pos) (gTup K n ts) := by subst h; exact pg_tup hc hh hn hst
theorem peFld (K : PySem.W.Frag) {f : Str} (he : PE X e te) (hb : attributeBase e f X.env (eval e X.env) = eval e X.env) (h : X.K = K := by rfl) : PE X (.Attribute e f pos) (tFld K te f) := by subst h; exact pe_fld he hb
end
/-! ### a call by keywords alone -/
section
variable {X : Cx} {CX : CXT} {k : Nat} {f : Addr} {fd : FuncData} {ps ks : List Str} {sp : Sp} {E : XK} {x : Str} {p pos : Pos} {kws : List Keyword} {tk : TA} {g : List Value → List Value → List Value} {gV : List V → List V → List V}
theorem pe_callK0 (F : FnOk X.prog X.w X.K X.mg X.base CX k f fd ps sp) (hr : Room k X.A) (hg : Gl X x) (hm : X.mg x = some (.ref f)) (hk : PySem.W.keepIn X.K (.ref f) = true) (hb : KBinds X.K fd ps ks g gV) (hx : Passes CX X E)
    (hkw : PK X kws tk) (hall : (backToKw pos (keywordEach kws X.env)).all (·.1.isSome) = true := by rfl) (hks : (backToKw pos (keywordEach kws X.env)).filterMap (·.1) = ks := by rfl)
    (hdb : (x == ("__debug__" : Str)) = false := by decide)
    (hpl : ((backTo pos (starEach [] X.env)).any (·.1) || (backToKw pos (keywordEach kws X.env)).any (·.1.isNone)) = false := by rfl) :
    PE X (.Call (.Name x p) [] kws pos) (tCallK sp gV E tNil tk) := by
  refine ⟨fun pins s σ H Q I h => ?_⟩
  refine wpAny_Call_Name_kw (ld_glob I hg hm ?_ hdb)
  refine PySem.W.callWith_KW0 (h₀ := X.base) I.ok.mod.kin hk hall ?_ hpl
  refine thn (hkw.run pos pins s σ H _ I h) fun ws s2 ⟨zs, H2, I2, rz, q2⟩ => ⟨I2.kIn, ?_⟩
  rw [hks]
  exact run_fnk (us := []) (vs := []) F hr hb hx I2 .nil rz q2
end
section
variable {F : Fm} {δ : List SD} {ta tk : TA} {P : D → Prop} {Pre : List D → Prop} {Post : List D → D → Prop} {E : XK} {gV : List V → List V → List V} {gD : List D → List D → List D}
theorem ev_callK (hg : ∀ (H : Hp) (vs zs : List V) (ds es : List D), RepL F.K H vs ds → RepL F.K H zs es → RepL F.K H (gV vs zs) (gD ds es))
    (h : EvA F ta δ fun ds => EvA F tk δ fun es => Pre (gD ds es) ∧ ∀ d, Post (gD ds es) d → P d) : Ev F (tCallK (spD F.K Pre Post) gV E ta tk) δ P := fun M σ H Q c q =>
  h M σ H _ c fun vs ds H1 p c1 e1 r => p M σ H1 _ c1 fun zs es H2 p2 c2 e2 r2 =>
    ⟨M, gD ds es, c2.al, hg _ _ _ _ _ (r.mono (hd_step c1 e2)) r2, p2.1, fun v d H3 pd s r3 => q v d H3 (p2.2 d pd) (c2.same s) ((e1.trans e2).trans (StepB.of s)) r3⟩
end
section
variable {K : PySem.W.Frag} {P : D → Prop} {x : D} {F : Fm} {δ : List SD} {te : TE}
theorem cd_lenK {k : Nat} (h : lenD x = some k) (hz : k ≤ 100000) (p : P (.int (k : Int))) : CallD K (rLenK K) [x] P := cd_len h hz p
/-- list(x): a new list of the same items -/
theorem en_listOf {PL : List D → Prop} (h : Ev F te δ fun d => ∃ xs, (d = .lst xs ∨ d = .tup xs) ∧ PL xs) : EvN F (tCB (rListK F.K) (tCons te tNil)) δ PL := fun M σ H Q c q =>
  h M σ H _ c fun v d H1 p c1 e1 r => by
    obtain ⟨xs, hd', pz⟩ := p
    have key : ∀ (a : Addr) (vs : List V), (SqL F.K H1 a vs ∨ SqT F.K H1 a vs) → RepL F.K (hd M H1) vs xs → rListK F.K [.ref a] H1 Q := fun a vs hs hr => by
      refine ⟨a, vs, rfl, hs, fun p hp => ?_⟩
      have hp0 : H p = none := by
        cases z : H p with
        | none => rfl
        | some o =>
          have := e1 p o (c1.nob hp) z
          rw [hp] at this
          cases this
      refine q p vs xs _ pz (c1.hide hp) hp0 (c1.h0 hp) (c1.nob hp) (c1.nown hp) (e1.trans (StepB.of (same_new hp))) upd_same (hr.mono fun b u e => ?_)
      obtain ⟨m, h⟩ := hd_of e
      have n : b ≠ p := ne_of_none h hp
      exact hd_at (by rw [hid_ne n]; exact m) (by rw [upd_ne n]; exact h)
    rcases hd' with rfl | rfl
    · cases r with
      | lst h1 h2 => exact key _ _ (.inl (SqL.of (hd_of h1).2)) h2
    · cases r with
      | tup h1 h2 => exact key _ _ (.inr (same_tup (same_hd M H1) h1)) h2
end
end Pf

namespace Pf
open PySem L2 RZ PySem.Spec PyProof.Rows
/-! ### a sequence that is borrowed, walked and asked -/
section
variable {F : Fm} {δ : List SD} {M : Addr → Bool} {σ : L2.St} {H : Hp} {PX : List D → Prop} {ta : TA} {te : TE} {P : D → Prop}
theorem walkD_enL {a : Addr} {vs : List V} {xs : List D} (k : ∀ H', StepB F.mv F.H0 H' → SqL F.K H' a vs) (h2 : RepL F.K (hd M H) vs xs) : WalkD F (Ite F.K a) M H (numbered xs) := by
  refine ⟨fun H => SqL F.K H a vs, YPair (fun i => some (.int (i : Nat))) (fun i => vs[i]?), ?_, fun M2 H2 _ e => k H2 e, fun M2 H2 i x H3 al e y => ?_⟩
  · have := walk_enum (K := F.K) (a := a) (xs := vs)
    rw [numbered_len, ← h2.length]
    exact this
  · obtain ⟨T, v, w, rfl, hT, rfl, e1, e2⟩ := y
    cases e1
    obtain ⟨f, e3, r2⟩ := h2.getV e2
    exact ⟨same_new hT, .tup [.int (i : Nat), f], numbered_get e3, pair_ok al hT (.int _) (r2.mono e)⟩
theorem walkD_enT {a : Addr} {vs : List V} {xs : List D} (k : ∀ H', StepB F.mv F.H0 H' → SqT F.K H' a vs) (h2 : RepL F.K (hd M H) vs xs) : WalkD F (IteT F.K a) M H (numbered xs) := by
  refine ⟨fun H => SqT F.K H a vs, YPair (fun i => some (.int (i : Nat))) (fun i => vs[i]?), ?_, fun M2 H2 _ e => k H2 e, fun M2 H2 i x H3 al e y => ?_⟩
  · have := walk_enumT (K := F.K) (a := a) (xs := vs)
    rw [numbered_len, ← h2.length]
    exact this
  · obtain ⟨T, v, w, rfl, hT, rfl, e1, e2⟩ := y
    cases e1
    obtain ⟨f, e3, r2⟩ := h2.getV e2
    exact ⟨same_new hT, .tup [.int (i : Nat), f], numbered_get e3, pair_ok al hT (.int _) (r2.mono e)⟩
theorem seq_keepL {K : PySem.W.Frag} {H H' : Hp} {p : Addr} {vs : List V} {B : Addr → Prop} (e : StepB B H H') (hb : ¬ B p) (h : SqL K H p vs) : SqL K H' p vs := by
  rcases h with (h | ⟨o, h⟩) | h
  · exact .inl (.inl (e _ _ hb h))
  · exact .inl (.inr ⟨o, e _ _ hb h⟩)
  · exact .inr h
theorem seq_keepT {K : PySem.W.Frag} {H H' : Hp} {p : Addr} {vs : List V} {B : Addr → Prop} (e : StepB B H H') (hb : ¬ B p) (h : SqT K H p vs) : SqT K H' p vs := by
  rcases h with (h | ⟨o, h⟩) | h
  · exact .inl (.inl (e _ _ hb h))
  · exact .inl (.inr ⟨o, e _ _ hb h⟩)
  · exact .inr h
theorem Ctx.sqAt (c : Ctx F M σ H δ) {i : Nat} {ds : List D} (h : δ[i]? = some (.sq ds)) : ∃ p vs, σ[i]? = some (some (.ref p)) ∧ ((∀ H', StepB F.mv F.H0 H' → SqL F.K H' p vs) ∨ (∀ H', StepB F.mv F.H0 H' → SqT F.K H' p vs)) ∧ RepL F.K (hd M H) vs ds := by
  obtain ⟨s, h1, p, vs, h2, h3, h4, h5⟩ := c.sl i _ h
  subst h2
  refine ⟨p, vs, h1, ?_, h5⟩
  rcases h4 with h4 | h4
  · exact .inl fun H' e => seq_keepL e h3 h4
  · exact .inr fun H' e => seq_keepT e h3 h4
theorem it_enumSq {i : Nat} {ds : List D} (hi : δ[i]? = some (.sq ds)) (p : PX (numbered ds)) : ItD F (iEnumA F.K (tCons (tVar i) tNil)) δ PX := fun M σ H R c q => by
  obtain ⟨a, vs, h1, h2, r⟩ := c.sqAt hi
  rcases h2 with h2 | h2
  · exact ⟨_, h1, a, vs, rfl, .inl ⟨h2 H c.fr, q _ _ H p c (StepB.refl _ _) (walkD_enL h2 r)⟩⟩
  · exact ⟨_, h1, a, vs, rfl, .inr ⟨h2 H c.fr, q _ _ H p c (StepB.refl _ _) (walkD_enT h2 r)⟩⟩
theorem ev_lenSq {i : Nat} {ds : List D} (hi : δ[i]? = some (.sq ds)) (p : P (.int (ds.length : Int))) : Ev F (tCB (rLenK F.K) (tCons (tVar i) tNil)) δ P := fun M σ H Q c q => by
  obtain ⟨a, vs, h1, h2, r⟩ := c.sqAt hi
  refine ⟨_, h1, _, ds.length, rfl, ?_, q _ _ H p c (StepB.refl _ _) (.int _)⟩
  rcases h2 with h2 | h2
  · exact .inl ⟨_, h2 H c.fr, r.length.symm⟩
  · exact .inr ⟨_, h2 H c.fr, r.length.symm⟩
end
/-! ### more operations -/
section
variable {F : Fm} {δ : List SD} {te tv : TE} {R : PD} {P : D → Prop}
/-- a constant of a class -/
theorem ev_cval {C : Addr} {mc : Value} {f : Str} {n : Int} {u : Value} (cr : ClX.CRead F.K C mc) (cv : ClX.CVal F.K C mc f (.int n) u) (p : P (.int n)) (h : Ev F te δ fun d => d = .adr C) : Ev F (ClX.tCVal F.K te f) δ P := fun M σ H Q c q =>
  h M σ H _ c fun v x H1 p1 c1 e1 r1 => by
    subst p1
    cases r1
    exact ⟨C, mc, .int n, u, rfl, cr, cv, q _ _ H1 p c1 e1 (.int n)⟩
end
section
variable {K : PySem.W.Frag} {P : D → Prop}
/-- == and != of data at any depth -/
theorem od_eqD {x y : D} (px : plainD x = true) (py : plainD y = true) (sx : SeqAt.shaped (pyd x) = true) (sy : SeqAt.shaped (pyd y) = true) (p : P (.bl (PyData.eqv (pyd x) (pyd y)))) : OpD K (rEqD K) x y P := fun M H v w Q al r1 r2 q =>
  ⟨_, _, rep_dp (r1.mono (same_hd M H)) px, rep_dp (r2.mono (same_hd M H)) py, sx, sy, q _ _ H p (Same.refl H) (.bl _)⟩
end
/-! f-strings -/
section
variable {F : Fm} {δ : List SD} {te : TE} {P : D → Prop} {PS : Str → Prop}
end
end Pf
namespace Pf
open PySem L2 RZ PySem.Spec PyProof.Rows
theorem peCval {X : Cx} {e : Expr} {f : Str} {pos : Pos} {ta : TE} (K : PySem.W.Frag) (he : PE X e ta) (hb : attributeBase e f X.env (eval e X.env) = eval e X.env := by rfl) (hK : X.K = K := by rfl) : PE X (.Attribute e f pos) (ClX.tCVal K ta f) := by
  subst hK; exact ClX.pe_cval he hb
end Pf

namespace Pf
open PySem L2 RZ PySem.Spec PyProof.Rows
/-! a def of one sequence that is only read -/
def spS (K : PySem.W.Frag) (Pre : List D → Prop) (Post : List D → D → Prop) : Sp := fun vs H Q _ => ∃ (M : Addr → Bool) (p : Addr) (us : List V) (es : List D), vs = [.ref p] ∧ Al M H ∧ (SqL K H p us ∨ SqT K H p us) ∧ RepL K (hd M H) us es ∧ Pre es ∧
  ∀ v d H', Post es d → Same H H' → Rep K (hd M H') v d → Q v H'
section
variable {K : PySem.W.Frag} {N : List Str} {vs : List V} {H : Hp} {Q : VK} {E : XK} {t : TS} {Pre : List D → Prop} {Post : List D → D → Prop}
theorem enterS (hs : spS K Pre Post vs H Q E) (hb : ∀ (M : Addr → Bool) (es : List D), Pre es → Do ⟨K, none, M, H, E, 0, []⟩ t (.sq es :: List.replicate (N.length - 1) .un) { nx := fun _ => Post es .non, rt := Post es }) :
    t { nx := fun _ H' => Q .non H', rt := Q } (L2.start N vs) H := by
  obtain ⟨M, p, us, es, rfl, al, hq, r, pre, q⟩ := hs
  have nown : ∀ {i : Nat} {p : Addr} {x : SD}, (SD.sq es :: List.replicate (N.length - 1) .un)[i]? = some x → p ∉ x.ads := fun {i p x} h hp => by
    have := List.mem_of_getElem? h
    rcases List.mem_cons.mp this with h | h
    · subst h; cases hp
    · have := List.eq_of_mem_replicate h
      subst this; cases hp
  have c : Ctx ⟨K, none, M, H, E, 0, []⟩ M (L2.start N [.ref p]) H (.sq es :: List.replicate (N.length - 1) .un) := by
    refine ⟨al, al, fun _ h => h, StepB.refl _ _, ⟨fun b z => (nomatch z), fun a h => (nomatch h)⟩, ?_, fun i x h => ?_, fun i j x y p h1 h2 hp _ => absurd hp (nown h1), fun i x p h hp => absurd hp (nown h)⟩
    · unfold L2.start
      simp
    · unfold L2.start
      cases i with
      | zero =>
        have e : SD.sq es = x := by simpa using h
        subst e
        exact ⟨_, rfl, p, us, rfl, mv_none rfl rfl _, hq, r⟩
      | succ i =>
        have h' : (List.replicate (N.length - 1) SD.un)[i]? = some x := by simpa using h
        have hx : x = .un := List.eq_of_mem_replicate (List.mem_of_getElem? h')
        have hlt := (List.getElem?_eq_some_iff.mp h').1
        rw [List.length_replicate] at hlt
        subst hx
        refine ⟨none, ?_, trivial⟩
        show (List.replicate (N.length - 1) none)[i]? = some none
        rw [List.getElem?_replicate, if_pos hlt]
  refine hb M es pre M _ H _ c (fun M' σ' H' δ' p c' s => ?_) (fun v d M' σ' H' δ' p c' s r' => ?_) (fun _ _ _ _ p => p.elim) (fun _ _ _ _ p => p.elim)
  · exact q _ _ H' p (fun a o h => c'.fr a o (mv_none rfl rfl a) h) .non
  · exact q v d H' p (fun a o h => c'.fr a o (mv_none rfl rfl a) h) (r'.mono (same_hd_le fun a h => c'.m0 a h))
end
section
variable {F : Fm} {δ : List SD} {P : D → Prop} {Pre : List D → Prop} {Post : List D → D → Prop} {E : XK}
end
theorem spS_len {K : PySem.W.Frag} {Pre : List D → Prop} {Post : List D → D → Prop} : ∀ vs H Q E, spS K Pre Post vs H Q E → vs.length = 1 := fun vs H Q E ⟨M, p, us, es, e, _⟩ => by rw [e]; rfl
theorem spN_len {K : PySem.W.Frag} {Pre : List D → Prop} {Post : List D → List D → Prop} {n : Nat} (h : ∀ ds, Pre ds → ds.length = n) : ∀ vs H Q E, spN K Pre Post vs H Q E → vs.length = n := fun vs H Q E ⟨M, ds, _, r, p, _⟩ => by rw [r.length, h ds p]
end Pf

namespace Pf
open PySem L2 RZ PySem.Spec PyProof.Rows
/-- texts -/
def txsD (zs : List Str) : List D := zs.map .str
theorem repL_strs {K : PySem.W.Frag} {H : Hp} : ∀ {vs : List V} {zs : List Str}, RepL K H vs (txsD zs) → vs = zs.map V.str
  | _, [], .nil => rfl
  | _, b :: bs, .cons (.str _) r => by rw [List.map_cons, repL_strs (zs := bs) r]
/-! ### an __init__ with a sequence in the middle, keyword-only parameters behind -/
def spIM (K : PySem.W.Frag) (C : Addr) (Pre : List D → List D → List D → Prop) (Post : List D → List D → List D → List (Str × D) → Prop) : Sp := fun vs H Q _ => ∃ (M : Addr → Bool) (H1 : Hp) (x dx : Addr) (ws : List V) (ds : List D) (p : Addr) (us : List V) (es : List D) (zs : List V) (gs : List D), vs = .ref x :: (ws ++ .ref p :: zs) ∧ H1 x = none ∧ H1 dx = none ∧ dx ≠ x ∧
  H = upd (upd H1 dx (.own x)) x (.ins C dx []) ∧ Al M H1 ∧ RepL K (hd M H1) ws ds ∧ (SqL K H1 p us ∨ SqT K (hd M H1) p us) ∧ RepL K (hd M H1) us es ∧ RepL K (hd M H1) zs gs ∧ Pre ds es gs ∧ ∀ H2 fs, Post ds es gs fs → Same H1 H2 → Rep K (hd M H2) (.ref x) (.ins C fs) → Q .non H2
theorem spIM_len {K : PySem.W.Frag} {C : Addr} {Pre : List D → List D → List D → Prop} {Post : List D → List D → List D → List (Str × D) → Prop} {n : Nat} (h : ∀ ds es gs, Pre ds es gs → ds.length + gs.length + 2 = n) : ∀ vs H Q E, spIM K C Pre Post vs H Q E → vs.length = n := fun vs H Q E ⟨M, H1, x, dx, ws, ds, p, us, es, zs, gs, e, _, _, _, _, _, r, _, _, rz, pre, _⟩ => by
  rw [e]
  simp only [List.length_cons, List.length_append, r.length, rz.length]
  have := h ds es gs pre
  omega
section
variable {K : PySem.W.Frag} {N : List Str} {vs : List V} {H : Hp} {Q : VK} {E : XK} {t : TS} {C : Addr}
theorem enterIM {Pre : List D → List D → List D → Prop} {Post : List D → List D → List D → List (Str × D) → Prop} (hs : spIM K C Pre Post vs H Q E)
    (hb : ∀ (M : Addr → Bool) (H1 : Hp) (x : Addr) (ds es gs : List D) (X : SD), Pre ds es gs → ds.length + gs.length + 2 = vs.length → (X = .sl es ∨ X = .dat (.tup es)) → Do ⟨K, none, M, H1, E, 0, []⟩ t (slotsI N x C (ds.map .dat ++ X :: gs.map .dat)) { nx := fun δ' => ∃ fs, δ'[0]? = some (.own x (.ins C fs)) ∧ Post ds es gs fs }) :
    t { nx := fun _ H' => Q .non H', rt := Q } (L2.start N vs) H := by
  obtain ⟨M, H1, x, dx, ws, ds, p, us, es, zs, gs, rfl, hx, hdx, ne, rfl, al, r, hq, rq, rz, pre, q⟩ := hs
  have hl := r.length
  have hlz := rz.length
  have s1 := same_made (C := C) hx hdx
  obtain ⟨X, hX, hXs, hXn⟩ : ∃ X : SD, (X = .sl es ∨ X = .dat (.tup es)) ∧ SlotOk ⟨K, none, M, H1, E, 0, []⟩ (hid M x) (upd (upd H1 dx (.own x)) x (.ins C dx [])) (some (.ref p)) X ∧ ∀ p, p ∉ X.ads := by
    rcases hq with hq | hq
    · exact ⟨.sl es, .inl rfl, ⟨p, us, rfl, mv_none rfl rfl _, hq, rq.mono (hid_mono hx s1)⟩, fun p hp => by cases hp⟩
    · exact ⟨.dat (.tup es), .inr rfl, ⟨_, rfl, .tup (same_tup (hid_mono hx s1) hq) (rq.mono (hid_mono hx s1))⟩, fun p hp => by cases hp⟩
  have split : ∀ (i : Nat) (y : SD), (ds.map SD.dat ++ X :: gs.map SD.dat)[i]? = some y → (∃ v, (ws ++ .ref p :: zs)[i]? = some v ∧ SlotOk ⟨K, none, M, H1, E, 0, []⟩ (hid M x) (upd (upd H1 dx (.own x)) x (.ins C dx [])) (some v) y) ∧ ∀ p, p ∉ y.ads := fun i y h => by
    by_cases hi : i < ds.length
    · rw [List.getElem?_append_left (by simpa using hi), List.getElem?_map] at h
      cases z : ds[i]? with
      | none => rw [z] at h; cases h
      | some d =>
        rw [z] at h
        cases h
        obtain ⟨v, g1, g2⟩ := r.get z
        exact ⟨⟨v, by rw [List.getElem?_append_left (by rw [hl]; exact hi)]; exact g1, v, rfl, g2.mono (hid_mono hx s1)⟩, fun p hp => by cases hp⟩
    · have hi := Nat.le_of_not_lt hi
      rw [List.getElem?_append_right (by simpa using hi)] at h
      simp only [List.length_map] at h
      rw [List.getElem?_append_right (by rw [hl]; exact hi), hl]
      generalize i - ds.length = j at h
      cases j with
      | zero =>
        obtain rfl : X = y := by simpa using h
        exact ⟨⟨_, rfl, hXs⟩, hXn⟩
      | succ j =>
        have h' : (gs.map SD.dat)[j]? = some y := by simpa using h
        rw [List.getElem?_map] at h'
        cases z : gs[j]? with
        | none => rw [z] at h'; cases h'
        | some d =>
          rw [z] at h'
          cases h'
          obtain ⟨v, g1, g2⟩ := rz.get z
          exact ⟨⟨v, by simpa using g1, v, rfl, g2.mono (hid_mono hx s1)⟩, fun p hp => by cases hp⟩
  have c := ctxI (K := K) (E := E) (C := C) (N := N) (ws := ws ++ .ref p :: zs) (sds := ds.map .dat ++ X :: gs.map .dat) hx hdx ne al (by simp [hl, hlz]) (fun i y h => (split i y h).1) (fun i y p h => (split i y h).2 p)
  refine hb M H1 x ds es gs X pre (by simp [hl, hlz]; omega) hX _ _ _ _ c (fun M' σ' H' δ' pp c' s => ?_) (fun v d M' σ' H' δ' pp => pp.elim) (fun _ _ _ _ p => p.elim) (fun _ _ _ _ p => p.elim)
  obtain ⟨fs, h0, po⟩ := pp
  obtain ⟨g1, g2⟩ := leaveI hx al c' h0
  exact q H' fs po g1 g2
end
/-- a list as it was split in data -/
theorem repL_split {K : PySem.W.Frag} {H : Hp} : ∀ {ds : List D} {l : D} {gs : List D} {vs : List V}, RepL K H vs (ds ++ l :: gs) → ∃ ws u zs, vs = ws ++ u :: zs ∧ RepL K H ws ds ∧ Rep K H u l ∧ RepL K H zs gs
  | [], l, gs, _, .cons r1 r2 => ⟨[], _, _, rfl, .nil, r1, r2⟩
  | d :: ds, l, gs, _, .cons r1 r2 => by
    obtain ⟨ws, u, zs, rfl, g1, g2, g3⟩ := repL_split (ds := ds) r2
    exact ⟨_ :: ws, u, zs, rfl, .cons r1 g1, g2, g3⟩
section
variable {F : Fm} {δ : List SD} {ta tk : TA} {te : TE} {P : D → Prop} {C : Addr} {E : XK} {Pre : List D → List D → List D → Prop} {Post : List D → List D → List D → List (Str × D) → Prop}
/-- the sequence that is handed over: data, or a list of one's own -/
def SeqArg (δ : List SD) (l : D) (es : List D) : Prop := l = .lst es ∨ l = .tup es ∨ ∃ (i : Nat) (p : Addr), l = .adr p ∧ δ[i]? = some (SD.own p (.lst es))
theorem seqArg_at {M : Addr → Bool} {σ : L2.St} {H : Hp} {u : V} {l : D} {es : List D} (c : Ctx F M σ H δ) (h : SeqArg δ l es) (r : Rep F.K (hd M H) u l) : ∃ p us, u = .ref p ∧ (SqL F.K H p us ∨ SqT F.K (hd M H) p us) ∧ RepL F.K (hd M H) us es := by
  rcases h with rfl | rfl | ⟨i, p, rfl, hi⟩
  · cases r with
    | lst h1 h2 => exact ⟨_, _, rfl, .inl (SqL.of (hd_of h1).2), h2⟩
  · cases r with
    | tup h1 h2 => exact ⟨_, _, rfl, .inr h1, h2⟩
  · cases r
    obtain ⟨s, hs, e, m, ho, hp, rr⟩ := c.sl i _ hi
    cases rr with
    | @lst us _ rr => exact ⟨p, us, rfl, .inl (SqL.of hp), rr⟩
/-- C(e, .., k = v, ..) -/
theorem ev_makeMK {n m : Nat} {gV : List V → List V → List V} {gD : List D → List D → List D} (hg : ∀ (H : Hp) (vs zs : List V) (ds es : List D), RepL F.K H vs ds → RepL F.K H zs es → RepL F.K H (gV vs zs) (gD ds es))
    (h : EvA F ta δ fun ds => EvA F tk δ fun ks => ds.length = n ∧ ks.length = m ∧ ∃ ds0 l es gs, (∀ x, gD (.adr x :: ds) ks = .adr x :: (ds0 ++ l :: gs)) ∧ SeqArg δ l es ∧ Pre ds0 es gs ∧ ∀ fs, Post ds0 es gs fs → P (.ins C fs)) :
    Ev F (tMakeK C n m (spIM F.K C Pre Post) gV E ta tk) δ P := fun M σ H Q c q => by
  refine h M σ H _ c fun vs ds H1 p1 c1 e1 r1 => p1 M σ H1 _ c1 fun zs ks H2 p2 c2 e2 r2 => ?_
  obtain ⟨l1, l2, ds0, l, es, gs, hgd, hl, pre, po⟩ := p2
  refine ⟨by rw [r1.length, l1], by rw [r2.length, l2], fun x dx hx hdx ne => ?_⟩
  have r := hg _ (.ref x :: vs) zs (.adr x :: ds) ks (.cons (.adr x) (r1.mono (hd_step c1 e2))) r2
  rw [hgd x] at r
  generalize gV (.ref x :: vs) zs = ws at r
  cases r with
  | cons ra rb =>
    cases ra
    obtain ⟨w1, u, w2, rfl, g1, g2, g3⟩ := repL_split rb
    obtain ⟨p, us, rfl, hq, rq⟩ := seqArg_at c2 hl g2
    exact ⟨M, H2, x, dx, w1, ds0, p, us, es, w2, gs, rfl, hx, hdx, ne, rfl, c2.al, g1, hq, rq, g3, pre, fun H3 fs ps s rr => ⟨rfl, q _ _ H3 (po fs ps) (c2.same s) ((e1.trans e2).trans (StepB.of s)) rr⟩⟩
/-! a sequence in a slot that is a borrowed list or a tuple of data -/
def SeqSlot (δ : List SD) (i : Nat) (es : List D) : Prop := δ[i]? = some (.sl es) ∨ δ[i]? = some (.dat (.tup es))
theorem Ctx.getSl {M : Addr → Bool} {σ : L2.St} {H : Hp} (c : Ctx F M σ H δ) {i : Nat} {ds : List D} (h : δ[i]? = some (.sl ds)) : ∃ p vs, σ[i]? = some (some (.ref p)) ∧ SqL F.K H p vs ∧ RepL F.K (hd M H) vs ds := by
  obtain ⟨s, h1, p, vs, h2, h3, h4, h5⟩ := c.sl i _ h
  subst h2
  exact ⟨p, vs, h1, seq_keepL c.fr h3 h4, h5⟩
theorem ev_tupSeq {i : Nat} {es : List D} (hi : SeqSlot δ i es) (p : P (.tup es)) : Ev F (tCB (rTupleK F.K) (tCons (tVar i) tNil)) δ P := fun M σ H Q c q => by
  rcases hi with hi | hi
  · obtain ⟨a, vs, h1, h2, r⟩ := c.getSl hi
    exact ⟨_, h1, a, vs, rfl, .inl ⟨h2, fun l hl => q _ _ _ p (c.same (same_new hl)) (StepB.of (same_new hl)) (.tup (SqT.of (hd_new c.al hl)) (r.mono (same_hdM (same_new hl))))⟩⟩
  · obtain ⟨v, h1, r⟩ := c.get hi
    cases r with
    | tup h2 h3 => exact ⟨_, h1, _, _, rfl, .inr ⟨same_tup (same_hd M H) h2, q _ _ H p c (StepB.refl _ _) (.tup h2 h3)⟩⟩
theorem ev_callSeq {Pre : List D → Prop} {Post : List D → D → Prop} {i : Nat} {es : List D} (hi : SeqSlot δ i es) (pre : Pre es) (po : ∀ d, Post es d → P d) : Ev F (tCall (spS F.K Pre Post) [] E (tCons (tVar i) tNil)) δ P := fun M σ H Q c q => by
  rcases hi with hi | hi
  · obtain ⟨a, vs, h1, h2, r⟩ := c.getSl hi
    refine ⟨_, h1, ?_⟩
    show spS F.K Pre Post ([V.ref a] ++ []) H Q E
    rw [List.append_nil]
    exact ⟨M, a, vs, es, rfl, c.al, .inl h2, r, pre, fun v d H' pd s r => q v d H' (po d pd) (c.same s) (StepB.of s) r⟩
  · obtain ⟨v, h1, r⟩ := c.get hi
    cases r with
    | @tup a vs _ h2 h3 =>
      refine ⟨_, h1, ?_⟩
      show spS F.K Pre Post ([V.ref a] ++ []) H Q E
      rw [List.append_nil]
      exact ⟨M, a, vs, es, rfl, c.al, .inr (same_tup (same_hd M H) h2), h3, pre, fun v d H' pd s r => q v d H' (po d pd) (c.same s) (StepB.of s) r⟩
/-- an item of a borrowed sequence -/
theorem ev_ixSq {i : Nat} {es : List D} {k : Int} {d : D} (hi : δ[i]? = some (.sq es)) (hk : atI es k = some d) (p : P d) : Ev F (tOp (rIx F.K) (tVar i) (tC (.int k))) δ P := fun M σ H Q c q => by
  obtain ⟨a, vs, h1, h2, r⟩ := c.sqAt hi
  obtain ⟨v, e, rv⟩ := repL_at r hk
  refine ⟨_, h1, ?_⟩
  rcases h2 with h2 | h2
  · exact .inl ⟨a, vs, k, v, rfl, rfl, h2 H c.fr, e, q v d H p c (StepB.refl _ _) rv⟩
  · exact .inr (.inl ⟨a, vs, k, v, rfl, rfl, h2 H c.fr, e, q v d H p c (StepB.refl _ _) rv⟩)
/-- a class constant that is a tuple of texts -/
theorem ev_ctup {mc : Value} {f : Str} {a : Addr} {u : Value} {zs : List Str} (cr : ClX.CRead F.K C mc) (cv : ClX.CVal F.K C mc f (.ref a) u) (sq : ∀ H, SqT F.K H a (zs.map V.str)) (p : P (.tup (txsD zs))) (h : Ev F te δ fun d => d = .adr C) : Ev F (ClX.tCVal F.K te f) δ P := fun M σ H Q c q =>
  h M σ H _ c fun v x H1 p1 c1 e1 r1 => by
    subst p1
    cases r1
    refine ⟨C, mc, .ref a, u, rfl, cr, cv, q _ _ H1 p c1 e1 (.tup (sq _) ?_)⟩
    have : ∀ zs : List Str, RepL F.K (hd M H1) (zs.map V.str) (txsD zs) := fun zs => by
      induction zs with
      | nil => exact .nil
      | cons z zs ih => exact .cons (.str z) ih
    exact this zs
/-- a, b = x, y -/
theorem do_par2 {tb : TE} {R : PD} {i j : Nat} (h : Ev F te δ fun x => Ev F tb δ fun y => R.nx ((δ.set i (.dat x)).set j (.dat y))) : Do F (tPar i j (tCons te (tCons tb tNil))) δ R := fun M σ H E c a b k d =>
  h M σ H _ c fun v x H1 p1 c1 e1 r1 => p1 M σ H1 _ c1 fun w y H2 p2 c2 e2 r2 =>
    ⟨v, w, rfl, a M _ H2 _ p2 ((c2.set i (r1.mono (hd_step c1 e2))).set j r2) ((hd_step c e1).trans (hd_step c1 e2))⟩
/-- list(range(n)) -/
theorem en_lstRg1 {PL : List D → Prop} (h : Ev F te δ fun d => ∃ n : Int, d = .int n ∧ 0 ≤ n ∧ n ≤ 1000 ∧ PL (upto 0 n.toNat)) : EvN F (tLstRg (tRg1 te)) δ PL := fun M σ H Q c q =>
  h M σ H _ c fun v d H1 p1 c1 e1 r1 => by
    obtain ⟨n, rfl, h0, h1, p⟩ := p1
    cases r1
    refine ⟨n, rfl, RgOk.of_le (by omega) (by omega) (by omega) (by omega), fun a ha => ?_⟩
    have ha0 : H a = none := by
      cases z : H a with
      | none => rfl
      | some o =>
        have := e1 a o (c1.nob ha) z
        rw [ha] at this
        cases this
    refine q a _ _ _ p (c1.hide ha) ha0 (c1.h0 ha) (c1.nob ha) (c1.nown ha) (e1.trans (StepB.of (same_new ha))) upd_same ?_
    have key : ∀ (H : Hp) (l : List Nat), RepL F.K H (l.map fun i => V.int (0 + (i : Nat))) (l.map fun i => D.int (0 + (i : Nat))) := fun H l => by
      induction l with
      | nil => exact .nil
      | cons x l ih => exact .cons (.int _) ih
    have e : (n - 0).toNat = n.toNat := by omega
    unfold rgV upto
    rw [e]
    exact key _ _
end
section
variable {K : PySem.W.Frag} {P : D → Prop}
/-- a text among texts -/
theorem od_inStrs {x : Str} {zs : List Str} {neg t : Bool} (p : P (.bl (if neg then !decide (x ∈ zs) else decide (x ∈ zs)))) : OpD K (rIn K neg) (.str x) (if t then .tup (txsD zs) else .lst (txsD zs)) P := fun M H v w Q al r1 r2 q => by
  cases r1
  have fl : ∀ ns : List Str, ((ns.map V.str).all flatV) = true := fun ns => by
    rw [List.all_eq_true]
    intro x hx
    obtain ⟨n, _, rfl⟩ := List.mem_map.mp hx
    rfl
  have iv : ∀ ns : List Str, inV (.str x) (ns.map V.str) = decide (x ∈ ns) := fun ns => by
    induction ns with
    | nil => rfl
    | cons n ns ih =>
      have e : eqV (.str n) (.str x) = decide (x = n) := by
        show (n == x) = _
        by_cases h : x = n
        · subst h
          simp
        · rw [decide_eq_false h]
          exact beq_eq_false_iff_ne.mpr fun e => h e.symm
      show (eqV (.str n) (.str x) || inV (.str x) (ns.map V.str)) = _
      rw [e, ih]
      simp [List.mem_cons]
  cases t with
  | true =>
    simp only [if_true] at r2
    cases r2 with
    | tup h1 h2 =>
      have e := repL_strs h2
      subst e
      exact ⟨_, _, rfl, .inr (same_tup (same_hd M H) h1), rfl, fl zs, by rw [iv]; exact q _ _ H p (Same.refl H) (.bl _)⟩
  | false =>
    simp only [Bool.false_eq_true, if_false] at r2
    cases r2 with
    | lst h1 h2 =>
      have e := repL_strs h2
      subst e
      exact ⟨_, _, rfl, .inl (SqL.of (hd_of h1).2), rfl, fl zs, by rw [iv]; exact q _ _ H p (Same.refl H) (.bl _)⟩
/-- tuple + tuple -/
theorem od_catT {xs ys : List D} (h : xs.length + ys.length ≤ 100000) (p : P (.tup (xs ++ ys))) : OpD K (rCatA K) (.tup xs) (.tup ys) P := fun M H v w Q al r1 r2 q => by
  cases r1 with
  | tup h1 h2 =>
    cases r2 with
    | tup h3 h4 =>
      refine ⟨_, _, _, _, rfl, rfl, same_tup (same_hd M H) h1, same_tup (same_hd M H) h3, by rw [h2.length, h4.length]; exact sz_of h, fun e => ?_, fun _ e => ?_, fun _ _ a ha => ?_⟩
      · subst e
        cases h2
        exact q _ _ H p (Same.refl H) (.tup h3 h4)
      · subst e
        cases h4
        exact q _ _ H (by simpa using p) (Same.refl H) (.tup h1 h2)
      · exact q _ _ _ p (same_new ha) (.tup (SqT.of (hd_new al ha)) ((h2.append h4).mono (same_hdM (same_new ha))))
end
end Pf

namespace Pf
open PySem L2 RZ PySem.Spec PyProof.Rows
/-! ### a def that returns a new list -/
def DoN (F : Fm) (ts : TS) (δ : List SD) (P : List D → Prop) : Prop := ∀ M σ H (E : Ends), Ctx F M σ H δ →
  (∀ p us es M' σ' H' δ', P es → Ctx F M' σ' H' δ' → H' p = some (.lst us) → F.H0 p = none → ¬ F.mv p → M' p = true → RepL F.K (hd M' H') us es → E.rt (.ref p) H') → ts E σ H
section
variable {F : Fm} {δ : List SD} {t u : TS} {te : TE} {tt : TT} {P : List D → Prop}
theorem dn_seq (h : Do F t δ { nx := fun δ' => DoN F u δ' P }) : DoN F (tSeq t u) δ P := fun M σ H E c q =>
  h M σ H { E with nx := u E } c (fun M' σ' H' δ' p c' s => p M' σ' H' E c' q) (fun _ _ _ _ _ _ p => p.elim) (fun _ _ _ _ p => p.elim) (fun _ _ _ _ p => p.elim)
/-- if tt: return ..; the rest -/
theorem dn_ifS (h : EvT F tt δ fun b => (b = true → DoN F t δ P) ∧ (b = false → DoN F u δ P)) : DoN F (tSeq (tIfS tt t tNext) u) δ P := fun M σ H E c q =>
  h M σ H _ c fun y H1 p c1 e => by
    cases y with
    | true => exact p.1 rfl M σ H1 { E with nx := u E } c1 q
    | false => exact p.2 rfl M σ H1 E c1 q
theorem dn_ret (h : EvN F te δ P) : DoN F (tRet te) δ P := fun M σ H E c q =>
  h M σ H _ c fun p vs ds H' pd c' hp h0 hb no e hl r => q p vs ds (hid M p) σ H' δ pd c' hl h0 hb hid_same r
end
section
variable {K : PySem.W.Frag} {N : List Str} {vs : List V} {H : Hp} {Q : VK} {E : XK} {t : TS} {Pre : List D → Prop} {Post : List D → List D → Prop}
end
section
variable {F : Fm} {δ : List SD} {ta tk : TA} {te tb : TE} {P : List D → Prop} {E : XK} {Pre : List D → Prop} {Post : List D → List D → Prop}
end
/-! ### sum, min, max, the set of ints sorted, a deep in -/
theorem callSum (K : PySem.W.Frag) {X : Cx} (hc : X.calm = true := by rfl) (h : X.K = K := by rfl) : CallR X (.builtin "sum") (rSum K) := by subst h; exact cr_sum hc
theorem callSortSet (w : World) {X : Cx} (hc : X.calm = true := by rfl) (h : X.w = w := by rfl) : CallR X (.builtin "sorted") (rSortedSet w) := by subst h; exact cr_sortedSet hc
/-- set(t), t a tuple of ints -/
def rSetI (K : PySem.W.Frag) (w : World) : List V → Hp → VK → Prop := fun xs H Q => ∃ (l : Addr) (ns : List Int), xs = [.ref l] ∧ SqT K H l (ns.map V.int) ∧ ns.length < 63 ∧
  ∀ p c, H p = none → c < 64 → Q (.ref p) (upd H p (SetO w p (fun j => decide (j ∈ ns)) c))
theorem callSetI (K : PySem.W.Frag) (w : World) {X : Cx} (hc : X.calm = true := by rfl) (h : X.K = K := by rfl) (hw : X.w = w := by rfl) : CallR X (.type "set") (rSetI K w) := by
  subst h hw
  intro pins s σ H xs us Q I r h
  obtain ⟨l, ns, rfl, hq, hz, q⟩ := h
  obtain ⟨u, rfl, ru⟩ := r.one
  cases (show u = Value.ref l from ru)
  obtain ⟨its, rv, pt, _⟩ := I.tuple hq
  refine call_set_tupI ns (I.ok.hd hc) (show s.heap.IsTuple l its.toArray from pt) (ints_of_vals rv) (by unfold scanBound; omega) fun h' tk c R1 hcn k => ?_
  exact ⟨.ref _, upd H s.heap.objs.size (SetO X.w s.heap.objs.size (fun j => decide (j ∈ ns)) c), I.laid (t' := tk) k (Nat.le_refl _) (setO_new R1), rfl, q _ c (I.hok.fresh (Nat.le_refl _)) (by omega)⟩
section
variable {K : PySem.W.Frag} {P : D → Prop} {ns : List Int}
theorem repL_ints {H : Hp} : ∀ {vs : List V} {ns : List Int}, RepL K H vs (ns.map .int) → vs = ns.map V.int
  | _, [], .nil => rfl
  | _, n :: ns, .cons (.int _) r => by rw [List.map_cons, repL_ints (ns := ns) r]
theorem cd_sum (p : P (.int ns.sum)) : CallD K (rSum K) [.lst (ns.map .int)] P := fun M H vs Q al r q => by
  cases r with
  | cons r1 r2 =>
    cases r2
    cases r1 with
    | lst h1 h2 =>
      have e := repL_ints h2
      subst e
      exact ⟨_, ns, rfl, SqL.of (hd_of h1).2, q _ _ H p (Same.refl H) (.int _)⟩
end
/-- one ascending list of the members -/
theorem asc_uniq : ∀ {xs ys : List Int}, xs.Pairwise (· < ·) → ys.Pairwise (· < ·) → (∀ k, k ∈ xs ↔ k ∈ ys) → xs = ys
  | [], [], _, _, _ => rfl
  | [], y :: ys, _, _, h => absurd ((h y).mpr (by simp)) (by simp)
  | x :: xs, [], _, _, h => absurd ((h x).mp (by simp)) (by simp)
  | x :: xs, y :: ys, hx, hy, h => by
    obtain ⟨hx1, hx2⟩ := List.pairwise_cons.mp hx
    obtain ⟨hy1, hy2⟩ := List.pairwise_cons.mp hy
    have e : x = y := by
      rcases List.mem_cons.mp ((h x).mp (by simp)) with e | h1
      · exact e
      rcases List.mem_cons.mp ((h y).mpr (by simp)) with e | h2
      · exact e.symm
      have := hy1 x h1
      have := hx1 y h2
      omega
    subst e
    rw [asc_uniq hx2 hy2 fun k => ⟨fun hk => ?_, fun hk => ?_⟩]
    · rcases List.mem_cons.mp ((h k).mp (List.mem_cons_of_mem _ hk)) with rfl | h1
      · exact absurd (hx1 k hk) (Int.lt_irrefl _)
      · exact h1
    · rcases List.mem_cons.mp ((h k).mpr (List.mem_cons_of_mem _ hk)) with rfl | h1
      · exact absurd (hy1 k hk) (Int.lt_irrefl _)
      · exact h1
section
variable {F : Fm} {δ : List SD} {te : TE} {PL : List D → Prop} {w : World}
end
/-! ### values known -/
section
variable {F : Fm} {δ : List SD} {ta tb te : TE} {tt tu : TT} {P : D → Prop} {x y z : D} {a b : Bool} {i j : Int}
theorem Ev.val {v : D} (h : Ev F te δ (· = v)) (p : P v) : Ev F te δ P := h.imp fun d e => by rw [e]; exact p
theorem v_var {k : Nat} (h : δ[k]? = some (.dat x)) : Ev F (tVar k) δ (· = x) := ev_var h rfl
theorem v_op {r : R2} (h1 : Ev F ta δ (· = x)) (h2 : Ev F tb δ (· = y)) (h : OpD F.K r x y (· = z)) : Ev F (tOp r ta tb) δ (· = z) := ev_op (h1.val (h2.val h))
theorem v_cmp {g : Int → Int → Bool} (h1 : Ev F ta δ (· = .int i)) (h2 : Ev F tb δ (· = .int j)) : Ev F (tOp (rI0 fun i j => .bl (g i j)) ta tb) δ (· = .bl (g i j)) := v_op h1 h2 (od_bl rfl)
theorem v_eqS {s t : Str} (h1 : Ev F ta δ (· = .str s)) (h2 : Ev F tb δ (· = .str t)) : Ev F (tOp rEq ta tb) δ (· = .bl (decide (s = t))) := v_op h1 h2 (od_eq_str rfl)
theorem v_notN (h1 : Ev F ta δ (· = x)) : Ev F (tOp (fun x y H Q => y = .non ∧ Q (.bl (!decide (x = .non))) H) ta (tC .non)) δ (· = .bl (!isNon x)) := v_op h1 (ev_non rfl) (ud_notN rfl)
theorem v_len {k : Nat} (hk : lenD x = some k) (hz : k ≤ 100000) (h : Ev F te δ (· = x)) : Ev F (tCB (rLenK F.K) (tCons te tNil)) δ (· = .int (k : Int)) := ev_cb (ea_cons (h.val (ea_nil (cd_lenK hk hz rfl))))
theorem v_ixT {ds : List D} (he : atI ds i = some z) (h1 : Ev F ta δ (· = .tup ds)) (h2 : Ev F tb δ (· = .int i)) : Ev F (tOp (rIxT F.K) ta tb) δ (· = z) := v_op h1 h2 (od_ixT he rfl)
theorem v_ixL {ds : List D} (he : atI ds i = some z) (h1 : Ev F ta δ (· = .lst ds)) (h2 : Ev F tb δ (· = .int i)) : Ev F (tOp (rIxL F.K) ta tb) δ (· = z) := v_op h1 h2 (od_ixL he rfl)
theorem EvT.val {PT : Bool → Prop} (h : EvT F tt δ (· = b)) (p : PT b) : EvT F tt δ PT := h.imp fun d e => by rw [e]; exact p
theorem vt_test (h : Ev F te δ (· = .bl b)) : EvT F (tTest te) δ (· = b) := et_test (h.val ⟨b, rfl, rfl⟩)
theorem vt_and (h1 : EvT F tt δ (· = a)) (h2 : EvT F tu δ (· = b)) : EvT F (tAnd tt tu) δ (· = (a && b)) :=
  et_and (h1.val ⟨fun e => h2.val (by rw [e]; rfl), fun e => by rw [e]; rfl⟩)
theorem vt_or (h1 : EvT F tt δ (· = a)) (h2 : EvT F tu δ (· = b)) : EvT F (tOr tt tu) δ (· = (a || b)) :=
  et_or (h1.val ⟨fun e => h2.val (by rw [e]; rfl), fun e => by rw [e]; rfl⟩)
theorem do_ifV {t u : TS} {R : PD} (h : EvT F tt δ (· = b)) (k1 : b = true → Do F t δ R) (k2 : b = false → Do F u δ R) : Do F (tIfS tt t u) δ R := do_if (h.val ⟨k1, k2⟩)
end
end Pf

/-! an error of an own class made as a value: with keywords too, over any built-in base -/
namespace PySem
namespace PfX
open PySem.W PySem.Calls PyProof.Rows PySem.HandSPX
section
variable {prog : Program} {w : World} {A : Around} {E : Value → Shared → Prop} {R : Result → Shared → Prop} {h : Heap} {g : Array GenState} {d : Drawn} {t : Nat} {os : OsState}
variable {nm q : Str} {C N : Addr} {bs bm tl : List Value} {hdct : Bool} {sn : List Str} {sub : List Value} {ab : Bool} {col : Option Bool} {dd : Option Addr} {k0 k1 k2 k3 k5 : Option Value} {B nI iI : String}
/-- base.__new__(C, .., k = v) is let -/
theorem xk_let (F : ExcBaseFacts B nI iI tl) (hT : ∀ X : String, bm.contains (.type X) = tl.contains (.type X)) {us : List Value} {ks : List (Str × Value)} {Q : Unit → Shared → Prop}
    (hC : h.get? C = some (excClassObj nm q C N bs bm hdct sn sub ab col dd k0 k1 k2 k3 k5 nI)) (z : Q () ⟨h, g, d, t, os⟩) : wpAny (model prog w) A (checkBuiltinCall nI ⟨.ref C :: us, ks⟩) Q E ⟨h, g, d, t, os⟩ := by
  have cB : (Value.ref C :: bm).contains (.type B) = true := by simp only [List.contains_cons, hT, F.hasB, Bool.or_true]
  have st := F.noStar
  simp only [checkBuiltinCall, F.newKind, F.newSplit, F.newRow]
  repeat (first | refine wpAny_loadPart_at hC ?_ | (refine wpAny_isSubtype_exc hC ?_; rw [cB]) | refine wpAny_staticBase_exc hC ?_ | refine wpAny_madeBy_exc hC ?_ | simp only [bne_self_eq_false, Bool.false_eq_true, if_false] | wp_step)
  exact z
/-- base.__new__(C, .., k = v) -/
theorem xk_new (F : ExcBaseFacts B nI iI tl) (hT : ∀ X : String, bm.contains (.type X) = tl.contains (.type X)) {us : List Value} {ks : List (Str × Value)}
    (hC : h.get? C = some (excClassObj nm q C N bs bm hdct sn sub ab col dd k0 k1 k2 k3 k5 nI)) (hl : us.length ≤ sizeLine)
    (z : R (.ok (.ret (.ref (h.objs.size + 1)))) ⟨(h.push (kdv_tup us)).push (excO C h.objs.size), g, d, t, os⟩) : codeAny (model prog w) A (.builtin nI ⟨.ref C :: us, ks⟩) R ⟨h, g, d, t, os⟩ := by
  have e1 := F.ends
  have cB : (Value.ref C :: bm).contains (.type B) = true := by simp only [List.contains_cons, hT, F.hasB, Bool.or_true]
  have cA : (Value.ref C :: bm).contains (.type "AttributeError") = false := by simp only [List.contains_cons, hT, F.noAttr]; rfl
  have cN : (Value.ref C :: bm).contains (.type "NameError") = false := by simp only [List.contains_cons, hT, F.noName]; rfl
  refine codeAny_builtinAt F.entry ?_
  unfold Builtin.«BaseException.__new__»
  refine wpAt_bind ?_
  show wpAt _ _ _ (stack >>= _) _ _ _
  refine wpAt_bind (wpAt_stack fun p below => wpAt_of_wpAny ?_)
  wp_walk
  refine wpAt_of_wpAny ?_
  rw [F.owner]
  repeat (first | with_reducible refine wpAny_madeHere_exc F.canon hC ?_ | with_reducible refine wpAny_loadPart_at hC ?_ | (with_reducible refine wpAny_isSubtype_exc hC ?_; first | rw [cB] | rw [cA] | rw [cN]) | wp_step)
  show R _ _
  rw [Heap.size_push]
  exact z
/-- type.__call__(C, .., k = v): C's own __init__ is asked -/
theorem xk_type (F : ExcBaseFacts B nI iI tl) (hT : ∀ X : String, bm.contains (.type X) = tl.contains (.type X)) {us : List Value} {ks : List (Str × Value)} {fI : Addr} {Q : Fin → Shared → Prop}
    (hC : h.get? C = some (excClassObj nm q C N bs bm hdct sn sub ab col dd k0 k1 k2 k3 k5 nI)) (hl : us.length ≤ sizeLine)
    (hi : Looks (model prog w) h (typeLookup (.ref C) "__init__") (some (.ref fI))) (hb : ∀ self, Looks (model prog w) h (bindSpecial (.ref fI) self) (.ref fI, [self]))
    (z : codeAny (model prog w) A (.call (.ref fI) ⟨.ref (h.objs.size + 1) :: us, ks⟩) (fun r s' => match r with | .ok (.ret v) => v = .none ∧ Q (.done (.ret (.ref (h.objs.size + 1)))) s' | .ok _ => False | .error e => E e s') ⟨(h.push (kdv_tup us)).push (excO C h.objs.size), g, d, t, os⟩) :
    wpAny (model prog w) A (Builtin.«type.__call__» ⟨.ref C :: us, ks⟩) Q E ⟨h, g, d, t, os⟩ := by
  have k : ∀ b o, h.get? b = some o → ((h.push (kdv_tup us)).push (excO C h.objs.size)).get? b = some o := fun b o e => Heap.get?_push_of_some _ (Heap.get?_push_of_some _ e)
  have hx : ((h.push (kdv_tup us)).push (excO C h.objs.size)).get? (h.objs.size + 1) = some (excO C h.objs.size) := by heap_get
  have hC' := k _ _ hC
  have own : (Value.ref C :: bm).contains (.ref C) = true := by simp
  repeat (first | with_reducible refine wpAny_loadPart_at hC ?_ | with_reducible refine wpAny_madeBy_exc hC ?_ | wp_step)
  refine codeAny_call_builtin_code (Code.quiet_builtin _ F.quiet) (xk_let F hT hC (xk_new F hT hC hl ?_))
  show wpAny _ _ _ _ _ _
  unfold isInstance
  repeat (first | with_reducible refine wpAny_loadPart_at hx ?_ | (with_reducible refine wpAny_isSubtype_exc hC' ?_; rw [own]) | wp_step)
  show wpAny _ _ (typeLookup (.ref C) _) _ _ _
  refine (hi.keeps k).at (wpAny_holding (wpAny_bind (((hb _).keeps k).at (wpAny_bind (wpAny_call (codeAny_mono z fun r s' y => ?_))))))
  rcases r with e | (v | _ | _ | _) <;> first | exact y | exact y.elim | skip
  obtain ⟨rfl, y⟩ := y
  first
    | exact wpAny_pure (wpAny_pure y)
    | (wp_walk; exact y)
/-- C(.., k = v) -/
theorem xk_call (F : ExcBaseFacts B nI iI tl) (hT : ∀ X : String, bm.contains (.type X) = tl.contains (.type X)) {us : List Value} {ks : List (Str × Value)} {fI : Addr}
    (hC : h.get? C = some (excClassObj nm q C N bs bm hdct sn sub ab col dd k0 k1 k2 k3 k5 nI)) (hl : us.length ≤ sizeLine)
    (hi : Looks (model prog w) h (typeLookup (.ref C) "__init__") (some (.ref fI))) (hb : ∀ self, Looks (model prog w) h (bindSpecial (.ref fI) self) (.ref fI, [self]))
    (z : codeAny (model prog w) (A.under (.builtin "type.__call__" ⟨.ref C :: us, ks⟩)) (.call (.ref fI) ⟨.ref (h.objs.size + 1) :: us, ks⟩) (InitBack (h.objs.size + 1) R) ⟨(h.push (kdv_tup us)).push (excO C h.objs.size), g, d, t, os⟩) :
    codeAny (model prog w) A (.call (.ref C) ⟨us, ks⟩) R ⟨h, g, d, t, os⟩ := by
  have f1 := tc_lookup
  have f2 := tc_bind (.ref C)
  have ty : (⟨h, g, d, t, os⟩ : Shared).TypeIs (.ref C) "type" := ⟨_, hC, rfl⟩
  refine codeAny_of_tree ?_
  show wpAny _ _ (callAny (.ref C) _) _ _ _
  repeat (any_goals (first | assumption | with_reducible refine wpAny_loadPart_at hC ?_ | wp_step))
  refine ⟨rfl, ?_⟩
  refine codeAny_call_builtin_at (Code.quiet_builtin _ (by decide +kernel)) entry_typeCall (wpAny_check_type_call_sub hC (xk_type F hT hC hl hi hb ?_))
  refine codeAny_mono z fun r s' y => ?_
  rcases r with e | (v | _ | _ | _) <;> exact y
end
end PfX
end PySem

namespace PySem
namespace PfX
open PySem.W PySem.Calls PyProof.Rows PySem.HandSPX
/-! a built-in base of errors, as far as a store of a field asks of it -/
structure XT (B nI iI : String) (tl : List Value) : Prop where
  F : ExcBaseFacts B nI iI tl
  pass : ∀ self, refuseLoop self "__setattr__" tl = pure ()
  ob : tl.contains (.type "object") = true
theorem xt_VE : XT "ValueError" "ValueError.__new__" "ValueError.__init__" [.type "ValueError", .type "Exception", .type "BaseException", .type "object"] := ⟨F.excBase_ValueError, fun s => F.store_ValueError.passes s, by decide +kernel⟩
theorem xt_LE : XT "LookupError" "LookupError.__new__" "LookupError.__init__" [.type "LookupError", .type "Exception", .type "BaseException", .type "object"] := ⟨F.excBase_LookupError, fun s => by kernel_rfl, by decide +kernel⟩
theorem xt_IE : XT "IndexError" "IndexError.__new__" "IndexError.__init__" [.type "IndexError", .type "LookupError", .type "Exception", .type "BaseException", .type "object"] := ⟨F.excBase_IndexError, fun s => by kernel_rfl, by decide +kernel⟩
/-- own classes, then the base's -/
def overT (tl : List Value) : List Value → Bool
  | [] => false
  | v :: r => match v with
    | .ref _ => overT tl r
    | u => (u :: r) == tl
theorem overT_cases {tl : List Value} {v : Value} {r : List Value} (e : overT tl (v :: r) = true) : (∃ c, v = .ref c ∧ overT tl r = true) ∨ v :: r = tl := by
  cases v <;> first | exact .inl ⟨_, rfl, e⟩ | exact .inr (beq_iff_eq.mp e)
theorem overT_pass {B nI iI : String} {tl : List Value} (T : XT B nI iI tl) (self : Value) : ∀ l : List Value, overT tl l = true → refuseLoop self "__setattr__" l = pure ()
  | [], e => nomatch e
  | v :: r, e => by
    rcases overT_cases e with ⟨c, rfl, q⟩ | q
    · rw [refuseLoop_ref]
      exact overT_pass T self r q
    · rw [q]
      exact T.pass self
theorem overT_con {tl : List Value} (X : String) : ∀ l : List Value, overT tl l = true → l.contains (.type X) = tl.contains (.type X)
  | [], e => nomatch e
  | v :: r, e => by
    rcases overT_cases e with ⟨c, rfl, q⟩ | q
    · rw [List.contains_cons, overT_con X r q]
      rfl
    · rw [q]
theorem overT_ne {tl : List Value} : ∀ {l : List Value}, overT tl l = true → l.isEmpty = false
  | [], e => nomatch e
  | _ :: _, _ => rfl
section
open Builtin Builtin.ObjectAttr
variable {prog : Program} {w : World} {A : Around} {R : Result → Shared → Prop} {hp : Heap} {g : Array GenState} {d : Drawn} {t : Nat} {os : OsState}
/-- x.name = v on an error, up to the store in its own dict -/
theorem osa_to {K : Frag} {name : Str} {tk : Tok} {v : Value} {x C : Addr} {od : Option Obj} {ox : Obj} {cd : ClassData} {B nI iI : String} {tl : List Value} (T : XT B nI iI tl)
    (X : K.In hp) (I : InstAt hp x ox C od) (hcd : clsIn K C = some cd) (hm : overT tl cd.mro = true) (ha : findIn K (.ref C) name = some none)
    (z : wpAny (model prog w) (A.under (.builtin "object.__setattr__" ⟨[.ref x, .str name tk, v], []⟩)) (storeInOwnDict (.ref x) (.ref C) (.str name tk) name v false) (fun fin s' => match fin with | .done f => R (.ok f) s' | .again c => c.quiet = true ∧ codeAny (model prog w) A c R s') (fun e s' => R (.error e) s') ⟨hp, g, d, t, os⟩) :
    codeAny (model prog w) A (.call (.builtin "object.__setattr__") ⟨[.ref x, .str name tk, v], []⟩) R ⟨hp, g, d, t, os⟩ := by
  have ob : cd.mro.contains (.type "object") = true := (overT_con _ _ hm).trans T.ob
  have isO : Looks (model prog w) hp (isInstance (.ref x) (.type "object")) true := I.type.andThen (looks_mroIn X (by unfold mroIn; rw [hcd, Option.bind_some, if_neg (by rw [overT_ne hm]; decide), ob]))
  refine codeAny_call_builtin F.store_object.slot.plain F.store_object.entry (@check_slot (model prog w) _ _ ⟨hp, g, d, t, os⟩ "object.__setattr__" "object" "__setattr__" (.ref x) [.str name tk, v] [] _ F.store_object.kind F.store_object.split isO (F.store_object.args (.ref x) (.str name tk) v) ?_)
  have mr : Looks (model prog w) hp (mroOf (.ref C)) cd.mro := (looks_clsIn X hcd).andThen .now
  have no : Looks (model prog w) hp (storeTaker? none) none := .now
  rw [osa_eq, refuse_eq]
  refine wpAny_bind (wpAny_bind (I.type.at (wpAny_bind (mr.at ?_))))
  rw [overT_pass T _ _ hm]
  exact wpAny_pure (wpAny_bind (I.type.at (wpAny_bind ((looks_findIn X ha).at (wpAny_bind (no.at z))))))
end
end PfX
end PySem

namespace PySem
namespace PfX
open PySem.W PySem.Calls PyProof.Rows PySem.HandSPX
section
open Builtin Builtin.ObjectAttr
variable {M : Model} {A : Around} {E : Value → Shared → Prop} {Q : Fin → Shared → Prop} {hp : Heap} {g : Array GenState} {d : Drawn} {t : Nat} {os : OsState}
variable {nm q : Str} {C N x : Addr} {bs bm : List Value} {sn : List Str} {sub : List Value} {ab : Bool} {col : Option Bool} {dd : Option Addr} {k0 k1 k2 k3 k5 : Option Value} {nI : String} {name : Str} {tk : Tok} {v : Value} {fv : Array Value}
/-- the first field of an error: its dict is laid -/
theorem own_first (hC : hp.get? C = some (excClassObj nm q C N bs bm true sn sub ab col dd k0 k1 k2 k3 k5 nI)) (hx : hp.get? x = some { cls := .ref C, data := .fields fv })
    (z : ∀ h' tk' dx, hp.objs.size ≤ dx → (∀ b o, b ≠ x → hp.get? b = some o → h'.get? b = some o) → h'.get? x = some { cls := .ref C, dict := some dx, data := .fields fv } → h'.Ns1 dx (fun y => if y = name then some v else none) → Q (.done (.ret .none)) ⟨h', g, d, tk', os⟩) :
    wpAny M A (storeInOwnDict (.ref x) (.ref C) (.str name tk) name v false) Q E ⟨hp, g, d, t, os⟩ := by
  have new : x ≠ hp.objs.size := Nat.ne_of_lt (Heap.lt_size hx)
  have cl : Looks M hp (classData C) { name := nm, bases := bs, mro := .ref C :: bm, ns := N, qualname := q, hasDict := true, slotNames := sn, subclasses := sub, abstract := ab, collection := col } := by
    intro A' Q' E' s' k q'
    unfold classData
    exact wpAny_bind (wpAny_loadPart (k _ _ hC) (wpAny_pure q'))
  unfold storeInOwnDict ownDictForStores
  repeat (first | with_reducible refine store_in_new ?_ ?_ | with_reducible refine wpAny_loadPart_at hx ?_ | with_reducible refine cl.at ?_ | wp_step)
  · refine ⟨_, #[], _, (Heap.get?_update_ne _ _ _ _ new.symm).trans (Heap.get?_push_at rfl rfl), rfl, fun e he => absurd he (by simp), fun _ => rfl⟩
  · intro h' tk' ns sm
    refine z h' tk' hp.objs.size (Nat.le_refl _) (fun b o ne ho => ?_) ?_ ns
    · exact (sm.2 b (Nat.ne_of_lt (Heap.lt_size ho))).trans ((Heap.get?_update_ne _ _ _ _ ne).trans (Heap.get?_push_of_some _ ho))
    · exact (sm.2 x new).trans (Heap.get?_update_self _ (Heap.get?_push_of_some _ hx) rfl)
/-- a further field -/
theorem own_more {dx : Addr} {m0 : Str → Option Value} {nl : List Str} (hC : hp.get? C = some (excClassObj nm q C N bs bm true sn sub ab col dd k0 k1 k2 k3 k5 nI)) (hx : hp.get? x = some { cls := .ref C, dict := some dx, data := .fields fv })
    (hn : hp.Ns1 dx m0) (hw : Within m0 nl) (hl : nl.length ≤ 1000)
    (z : ∀ h' tk', (∀ b o, b ≠ dx → hp.get? b = some o → h'.get? b = some o) → h'.Ns1 dx (fun y => if y = name then some v else m0 y) → Q (.done (.ret .none)) ⟨h', g, d, tk', os⟩) :
    wpAny M A (storeInOwnDict (.ref x) (.ref C) (.str name tk) name v false) Q E ⟨hp, g, d, t, os⟩ := by
  have cl : Looks M hp (classData C) { name := nm, bases := bs, mro := .ref C :: bm, ns := N, qualname := q, hasDict := true, slotNames := sn, subclasses := sub, abstract := ab, collection := col } := by
    intro A' Q' E' s' k q'
    unfold classData
    exact wpAny_bind (wpAny_loadPart (k _ _ hC) (wpAny_pure q'))
  unfold storeInOwnDict ownDictForStores
  repeat (first | with_reducible refine OEX.store_in_old hn hw hl ?_ | with_reducible refine wpAny_loadPart_at hx ?_ | with_reducible refine cl.at ?_ | wp_step)
  intro h' tk' ns sm
  exact z h' tk' (fun b o ne ho => (sm.2 b ne).trans ho) ns
end
end PfX
end PySem
namespace Pf
open PySem L2 PySem.Spec PyProof.Rows
/-- what the written part says of a class of errors -/
structure XCls (K : PySem.W.Frag) (C : Addr) : Prop where
  cls : ∃ nm q N bs bm sn sub ab col dd k0 k1 k2 k3 k5 B nI iI tl, PySem.PfX.XT B nI iI tl ∧ PySem.PfX.overT tl bm = true ∧ K.lookup C = some (excClassObj nm q C N bs bm true sn sub ab col dd k0 k1 k2 k3 k5 nI)
  sa : PySem.W.findIn K (.ref C) "__setattr__" = some (some (.builtin "object.__setattr__"))
  kC : PySem.W.keepIn K (.ref C) = true
  is : ExcC K C
section
variable {X : Cx} {pins : List (Addr × Obj)} {σ : L2.St} {H : Hp} {s : Shared} {a C dx : Addr} {f : Str} {y : V} {u : Value} {fs : List (Str × V)} {Q : Unit → Shared → Prop} {E : Value → Shared → Prop} {A : Around}
theorem xst_first (T : XCls X.K C) (I : Inv X pins σ H s) (e : H a = some (exo a C none)) (no : PySem.W.findIn X.K (.ref C) f = some none) (ry : RelV y u)
    (h : ∀ dx s', H dx = none → dx ≠ a → Inv X pins σ (upd (upd H a (exo a C (some dx))) dx (exd dx [(f, y)])) s' → Q () s') : wpAny (model X.prog X.w) A (setAttr (.ref a) f u) Q E s := by
  obtain ⟨nm, q, N, bs, bm, sn, sub, ab, col, dd, k0, k1, k2, k3, k5, B, nI, iI, tl, xt, ot, hC⟩ := T.cls
  have hcl : PySem.W.clsIn X.K C = some { name := nm, bases := bs, mro := .ref C :: bm, ns := N, qualname := q, hasDict := true, slotNames := sn, subclasses := sub, abstract := ab, collection := col } := by unfold PySem.W.clsIn; rw [hC] <;> rfl
  obtain ⟨t1, ho⟩ := exo_at I.hok e
  obtain ⟨hp, g, d, t, os⟩ := s
  refine PySem.W.set_plain I.kIn (od := none) ⟨ho, rfl, rfl, trivial⟩ T.sa (PySem.PfX.osa_to xt I.kIn (od := none) ⟨ho, rfl, rfl, trivial⟩ hcl (show PySem.PfX.overT tl (.ref C :: bm) = true from ot) no ?_)
  refine PySem.PfX.own_first (I.kIn _ _ hC) ho fun h' tk' dx le k hx hn => ?_
  have n0 : H dx = none := I.hok.fresh le
  have na : dx ≠ a := fun z => by
    rw [z, e] at n0
    cases n0
  obtain ⟨G, g1, g2⟩ := restrict h' fun b => decide (b ≠ dx)
  have gk : ∀ b, b ≠ dx → G.get? b = h'.get? b := fun b hb => g1 b (decide_eq_true hb)
  have gn : G.get? dx = none := g2 dx (by simp)
  have ga : G.get? a = some { cls := .ref C, dict := some dx, data := .fields #[.ref t1, .none, .none, .none, .bool false, .none] } := (gk a na.symm).trans hx
  have I1 := I.write (h' := G) (t' := tk') (x := a) (e := a) (o := exo a C (some dx)) (by rw [e]; exact True.intro) (.inl rfl) (fun b o ne ho => (gk b (Nat.ne_of_lt (Nat.lt_of_lt_of_le (Heap.lt_size ho) le))).trans (k b o ne ho)) ⟨_, ga⟩ (exo_ok ga)
  refine h dx _ n0 na (I1.laidN (h' := h') (t' := tk') (a := dx) (o := exd dx [(f, y)]) (fun b o ho => ?_) gn (by rw [upd_ne na]; exact n0) (exd_ok hn (relO_put (fs := []) ry fun _ => True.intro)))
  by_cases hb : b = dx
  · subst hb
    exact absurd (gn.symm.trans ho) (by simp)
  · exact (gk b hb).symm.trans ho
theorem xst_more (T : XCls X.K C) (I : Inv X pins σ H s) (e : H a = some (exo a C (some dx))) (ed : H dx = some (exd dx fs)) (hl : fs.length ≤ 900) (no : PySem.W.findIn X.K (.ref C) f = some none) (ry : RelV y u)
    (h : ∀ s', Inv X pins σ (upd H dx (exd dx ((f, y) :: fs))) s' → Q () s') : wpAny (model X.prog X.w) A (setAttr (.ref a) f u) Q E s := by
  obtain ⟨nm, q, N, bs, bm, sn, sub, ab, col, dd, k0, k1, k2, k3, k5, B, nI, iI, tl, xt, ot, hC⟩ := T.cls
  have hcl : PySem.W.clsIn X.K C = some { name := nm, bases := bs, mro := .ref C :: bm, ns := N, qualname := q, hasDict := true, slotNames := sn, subclasses := sub, abstract := ab, collection := col } := by unfold PySem.W.clsIn; rw [hC] <;> rfl
  obtain ⟨t1, ho⟩ := exo_at I.hok e
  obtain ⟨mA, hns, rel⟩ := exd_at I.hok ed
  have hw := within_of rel
  obtain ⟨hp, g, d, t, os⟩ := s
  obtain ⟨oD, _, _, hoD, _, _⟩ := hns.count hw
  refine PySem.W.set_plain I.kIn (od := some oD) ⟨ho, rfl, rfl, hoD⟩ T.sa (PySem.PfX.osa_to xt I.kIn (od := some oD) ⟨ho, rfl, rfl, hoD⟩ hcl (show PySem.PfX.overT tl (.ref C :: bm) = true from ot) no ?_)
  refine PySem.PfX.own_more (I.kIn _ _ hC) ho hns hw (by rw [List.length_map]; omega) fun h' tk' k hn => ?_
  have at_ : ∃ o, h'.get? dx = some o := by
    obtain ⟨o, _, _, e', _⟩ := hn
    exact ⟨o, e'⟩
  exact h _ (I.write (t' := tk') (x := dx) (e := dx) (o := exd dx ((f, y) :: fs)) (by rw [ed]; exact True.intro) (.inl rfl) k at_ (exd_ok hn (relO_put ry rel)))
end
/-- self.f = e, self an error -/
def tXst (K : PySem.W.Frag) (f : Str) (to te : TE) : TS := fun D σ H => te σ H fun y H1 => to σ H1 fun x H2 => ∃ a C : Addr, x = .ref a ∧ XCls K C ∧ PySem.W.findIn K (.ref C) f = some none ∧
  ((H2 a = some (exo a C none) ∧ ∀ dx, H2 dx = none → dx ≠ a → D.nx σ (upd (upd H2 a (exo a C (some dx))) dx (exd dx [(f, y)]))) ∨
    ∃ (dx : Addr) (fs : List (Str × V)), H2 a = some (exo a C (some dx)) ∧ H2 dx = some (exd dx fs) ∧ fs.length ≤ 900 ∧ D.nx σ (upd H2 dx (exd dx ((f, y) :: fs))))
section
variable {X : Cx} {o e : Expr} {es : List Expr} {to te : TE} {ta : TA} {f : Str} {p p' pos : Pos}
theorem ps_xst (ho : PE X o to) (he : PE X e te) (hs : swapsWith e (some (.Attribute o f p')) pos.line X.env = pure false := by rfl) : PS X (.Assign [.Attribute o f p'] e pos) (tXst X.K f to te) := by
  refine ⟨fun pins s σ H D I h => ?_⟩
  refine plainObj_wpAny_Assign_Attribute (thn (he.run pins s σ H _ I h) fun v s1 ⟨y, H1, I1, r1, q1⟩ => thn (ho.run pins s1 σ H1 _ I1 q1) fun u s2 ⟨x, H2, I2, r2, a, C, ex, T, no, q⟩ => ?_) hs
  subst ex
  obtain rfl : u = Value.ref a := r2
  rcases q with ⟨ea, q⟩ | ⟨dx, fs, ea, ed, hl, q⟩
  · exact xst_first T I2 ea no r1 fun dx s' n ne J => ⟨σ, _, J, q dx n ne⟩
  · exact xst_more T I2 ea ed hl no r1 fun s' J => ⟨σ, _, J, q⟩
end
end Pf

namespace Pf
open PySem L2 PySem.Spec PyProof.Rows
section
variable {X : Cx} {CX : CXT} {k n : Nat} {f C : Addr} {fd : FuncData} {ps ks : List Str} {sp : Sp} {E : XK} {x : Str} {p pos : Pos} {e : Expr} {es : List Expr} {kws : List Keyword} {t tk : TA} {g : List Value → List Value → List Value} {gV : List V → List V → List V}
end
/-! ### reading a field, asking for the class -/
end Pf

namespace Pf
open PySem L2
/-! ### a class of errors, asked by the kernel -/
def tailVE : List Value := [.type "ValueError", .type "Exception", .type "BaseException", .type "object"]
def tailLE : List Value := [.type "LookupError", .type "Exception", .type "BaseException", .type "object"]
def tailIE : List Value := [.type "IndexError", .type "LookupError", .type "Exception", .type "BaseException", .type "object"]
def clsB (K : PySem.W.Frag) (C : Addr) : Bool := match K.lookup C with
  | some ⟨.type t, dd, .cls ⟨nm, bs, .ref c :: bm, N, q, hd, sn, sub, ab, col, del⟩, ⟨[k0, k1, k2, k3, some (.builtin nI), k5]⟩⟩ =>
    ((t == "type" && c == C) && (hd && !del)) && ((nI == "ValueError.__new__" && PfX.overT tailVE bm) || ((nI == "LookupError.__new__" && PfX.overT tailLE bm) || (nI == "IndexError.__new__" && PfX.overT tailIE bm)))
  | _ => false
theorem clsB_ok {K : PySem.W.Frag} {C : Addr} (h : clsB K C = true) : ∃ nm q N bs bm sn sub ab col dd k0 k1 k2 k3 k5 B nI iI tl, PfX.XT B nI iI tl ∧ PfX.overT tl bm = true ∧ K.lookup C = some (excClassObj nm q C N bs bm true sn sub ab col dd k0 k1 k2 k3 k5 nI) := by
  unfold clsB at h
  split at h
  · rename_i t dd nm bs c bm N q hd sn sub ab col del k0 k1 k2 k3 nI k5 e
    simp only [Bool.and_eq_true, Bool.or_eq_true, beq_iff_eq, Bool.not_eq_true'] at h
    obtain ⟨⟨⟨e1, e2⟩, e3, e4⟩, h⟩ := h
    subst e1 e2 e3 e4
    rcases h with ⟨e5, h⟩ | ⟨e5, h⟩ | ⟨e5, h⟩ <;> subst e5
    · exact ⟨nm, q, N, bs, bm, sn, sub, ab, col, dd, k0, k1, k2, k3, k5, _, _, _, _, PfX.xt_VE, h, e⟩
    · exact ⟨nm, q, N, bs, bm, sn, sub, ab, col, dd, k0, k1, k2, k3, k5, _, _, _, _, PfX.xt_LE, h, e⟩
    · exact ⟨nm, q, N, bs, bm, sn, sub, ab, col, dd, k0, k1, k2, k3, k5, _, _, _, _, PfX.xt_IE, h, e⟩
  · cases h
/-- all that is asked of a class of errors whose __init__ is fI, and whose instances have the fields fs of their own -/
def xcB (K : PySem.W.Frag) (C fI : Addr) (fs : List Str) : Bool := clsB K C && (decide (PySem.W.findIn K (.ref C) "__setattr__" = some (some (.builtin "object.__setattr__"))) && (PySem.W.keepIn K (.ref C) && (decide (PySem.W.findIn K (.ref C) "__getattribute__" = some (some (.builtin "BaseException.__getattribute__"))) &&
  (decide (PySem.W.findIn K (.ref C) "__getattr__" = some none) && (decide (PySem.W.subIn K (.ref C) (.type "BaseException") = some true) && (PySem.W.hasDictIn K C && (decide (PySem.W.findIn K (.ref C) "__class__" = some (some (.builtin "object.__class__"))) &&
  (decide (PySem.W.specialIn K (.builtin "object.__class__") "__get__" = some (some (.builtin "getset_descriptor.__get__"))) && (decide (PySem.W.takesIn K (.builtin "object.__class__") = some true) && (decide (PySem.W.mroIn K C (.type "object") = some true) &&
  (decide (PySem.W.typeIn K (.ref fI) = some (.type "function")) && (decide (PySem.W.findIn K (.ref C) "__init__" = some (some (.ref fI))) && fs.all fun f => decide (PySem.W.findIn K (.ref C) f = some none)))))))))))))
structure XAll (K : PySem.W.Frag) (C fI : Addr) (fs : List Str) : Prop where
  x : XCls K C
  tI : PySem.W.typeIn K (.ref fI) = some (.type "function")
  iC : PySem.W.findIn K (.ref C) "__init__" = some (some (.ref fI))
  no : ∀ f ∈ fs, PySem.W.findIn K (.ref C) f = some none
theorem xcB_ok {K : PySem.W.Frag} {C fI : Addr} {fs : List Str} (h : xcB K C fI fs = true) : XAll K C fI fs := by
  unfold xcB at h
  simp only [Bool.and_eq_true, decide_eq_true_eq, List.all_eq_true] at h
  obtain ⟨h1, h2, h3, h4, h5, h6, h7, h8, h9, h10, h11, h12, h13, h14⟩ := h
  exact ⟨⟨clsB_ok h1, h2, h3, ⟨h4, h5, h6, h7, h8, h9, h10, h11⟩⟩, h12, h13, h14⟩
/-! the classes beneath one another -/
structure KindsAt (K : PySem.W.Frag) (pe mi nl c : Addr) (i : Nat) : Prop where
  k1 : PySem.W.kitOne K (.ref c) (.type "ValueError") = some (decide (i < 22))
  k2 : PySem.W.kitOne K (.ref c) (.ref pe) = some (decide (i < 22))
  k3 : PySem.W.kitOne K (.ref c) (.type "LookupError") = some (decide (21 < i))
  k4 : PySem.W.kitOne K (.ref c) (.ref mi) = some (decide (21 < i) && decide (i < 24))
  k5 : PySem.W.kitOne K (.ref c) (.type "IndexError") = some (i == 24)
  k6 : PySem.W.kitOne K (.ref c) (.ref nl) = some (i == 24)
  k7 : PySem.W.kitOne K (.ref c) (.type "KeyError") = some false
/-! ### errors on data -/
section
variable {F : Fm} {δ : List SD} {te : TE} {t tk : TA} {P : D → Prop} {f : Str} {C : Addr} {fs : List (Str × D)} {y : D}
end
def postX1 (cd f : Str) : List D → List (Str × D) → Prop := fun ds gs => ∃ d, ds = [d] ∧ gs = [(f, d), (("code" : Str), D.str cd)]
/-! ### bodies: self.code = text, self.f = copied(value) -/
section
variable {K : PySem.W.Frag} {C : Addr} {N : List Str} {vs : List V} {H : Hp} {Q : VK} {E E' : XK} {cd f : Str} {PreC : List D → Prop}
theorem same_upd2 {H1 : Hp} {a dx : Addr} {o u : HO} (ha : H1 a = none) (hd : H1 dx = none) : Same H1 (upd (upd H1 a o) dx u) := fun b w e => by
  rw [upd_ne (ne_of_none e hd), upd_ne (ne_of_none e ha)]
  exact e
theorem upd_over {H : Hp} {a : Addr} {o u : HO} : upd (upd H a o) a u = upd H a u := by
  funext b
  by_cases h : b = a
  · subst h
    rw [upd_same, upd_same]
  · rw [upd_ne h, upd_ne h, upd_ne h]
end
end Pf

namespace Pf
open PySem L2 PySem.Spec PyProof.Rows
/-! ### an error made to be raised: over any built-in base, with keywords too -/
/-- raise C(e, .., k = v, ..): the error is let go, its dict stands as an error's dict -/
def tMkX (C : Addr) (n m : Nat) (sp : Sp) (gV : List V → List V → List V) (t tk : TA) : L2.St → Hp → XK → Prop := fun σ H Q => t σ H fun vs H1 => tk σ H1 fun zs H2 => vs.length = n ∧ zs.length = m ∧ n ≤ 1000 ∧ ∀ a, H2 a = none →
  sp (gV (.ref a :: vs) zs) (upd H2 a (exo a C none)) (fun v H3 => v = .non ∧ ∃ (d : Addr) (fs : List (Str × V)), H3 a = some (exo a C (some d)) ∧ H3 d = some (exd d fs) ∧ H2 d = none ∧ Q (.ref C) (some d) (upd (del H3 a) d (.xd fs))) (fun _ _ _ => False)
theorem XCls.ty {K : PySem.W.Frag} {C : Addr} (T : XCls K C) : PySem.W.typeIn K (.ref C) = some (.type "type") := by
  obtain ⟨nm, q, N, bs, bm, sn, sub, ab, col, dd, k0, k1, k2, k3, k5, B, nI, iI, tl, xt, ot, hC⟩ := T.cls
  show Option.map (fun x => x.cls) (List.lookup C K) = some (.type "type")
  rw [hC]
  rfl
section
variable {X : Cx} {CX : CXT} {k n : Nat} {f C : Addr} {fd : FuncData} {ps ks : List Str} {sp : Sp} {E : XK} {x : Str} {p pos : Pos} {e : Expr} {es : List Expr} {kws : List Keyword} {t tk : TA} {g : List Value → List Value → List Value} {gV : List V → List V → List V}
theorem run_mkX {pins : List (Addr × Obj)} {σ : L2.St} {H : Hp} {s : Shared} {Q : XK} {us ws : List Value} {vs zs : List V} (T : XCls X.K C) (iC : PySem.W.findIn X.K (.ref C) "__init__" = some (some (.ref f))) (tI : PySem.W.typeIn X.K (.ref f) = some (.type "function"))
    (F : FnOk X.prog X.w X.K X.mg X.base CX k f fd ps sp) (hr : Room (k + 1) X.A) (hb : KBn X.K fd ps (n + 1) ks g gV) (hx : Passes CX X (fun _ _ _ => False)) (I : Inv X pins σ H s) (r : Vals vs us) (rz : Vals zs ws) (l1 : vs.length = n) (l2 : zs.length = ks.length) (l3 : n ≤ 1000)
    (h : ∀ a, H a = none → sp (gV (.ref a :: vs) zs) (upd H a (exo a C none)) (fun v H3 => v = .non ∧ ∃ (d : Addr) (fs : List (Str × V)), H3 a = some (exo a C (some d)) ∧ H3 d = some (exd d fs) ∧ H d = none ∧ Q (.ref C) (some d) (upd (del H3 a) d (.xd fs))) (fun _ _ _ => False)) :
    wpAny (model X.prog X.w) X.A (call (.ref C) us (ks.zip ws)) (MkP X pins σ Q) X.xe s := by
  obtain ⟨nm, q, N, bs, bm, sn, sub, ab, col, dd, k0, k1, k2, k3, k5, B, nI, iI, tl, xt, ot, hC⟩ := T.cls
  obtain ⟨hp, gs, dr, tok, os⟩ := s
  have le : hp.objs.size ≤ hp.objs.size + 1 := Nat.le_succ _
  have keep : ∀ b o, hp.get? b = some o → ((hp.push (PySem.W.kdv_tup us)).push (PySem.HandSPX.excO C hp.objs.size)).get? b = some o := fun b o e => Heap.get?_push_of_some _ (Heap.get?_push_of_some _ e)
  have new : ((hp.push (PySem.W.kdv_tup us)).push (PySem.HandSPX.excO C hp.objs.size)).get? (hp.objs.size + 1) = some (PySem.HandSPX.excO C hp.objs.size) := by heap_get
  have I2 : Inv X pins σ (upd H (hp.objs.size + 1) (exo (hp.objs.size + 1) C none)) ⟨(hp.push (PySem.W.kdv_tup us)).push (PySem.HandSPX.excO C hp.objs.size), gs, dr, tok, os⟩ :=
    I.laid (t' := tok) (a := hp.objs.size + 1) (o := exo (hp.objs.size + 1) C none) keep le (exo_ok new)
  have n1 : (Value.ref (hp.objs.size + 1) :: us).length = n + 1 := by rw [List.length_cons, ← r.length, l1]
  have sz : us.length ≤ sizeLine := by
    rw [← r.length, l1, sizeLine_eq]
    omega
  have r1 : Vals (V.ref (hp.objs.size + 1) :: vs) (Value.ref (hp.objs.size + 1) :: us) := .cons rfl r
  have hq := h (hp.objs.size + 1) (I.hok.fresh le)
  refine wpAny_call (PySem.PfX.xk_call xt.F (fun Y => PySem.PfX.overT_con Y bm ot) (I.kIn _ _ hC) sz (PySem.W.looks_findIn I.kIn iC) (fun self => PySem.W.bind_fn I.kIn self tI)
    (codeAny_mono (F.run _ X.stack _ _ ⟨Value.ref (hp.objs.size + 1) :: us, ks.zip ws⟩ (g (Value.ref (hp.objs.size + 1) :: us) ws) _ _ (fun _ _ _ => False) (hr.make C us (ks.zip ws)) (I2.env0.make C us (ks.zip ws)) (hb.to _ (Value.ref (hp.objs.size + 1) :: us) ws I2.kIn n1 (rz.length.symm.trans l2)) (hb.rel r1 rz) hq) fun r s' hq' => ?_))
  cases r with
  | error e => exact hx pins σ _ _ e s' I2 hq'
  | ok fl =>
    cases fl with
    | ret u =>
      obtain ⟨v, H2, o2, b2, un2, hok2, rv, ev, d, fs, ea, ed, hd1, q2⟩ := hq'
      subst ev
      obtain ⟨h2, g2, d2, t2, os'⟩ := s'
      exact ⟨rv, mk_end (raises_own T.is.hs T.ty) I le keep un2 hok2 o2 b2 ea ed hd1 q2⟩
    | next => exact False.elim hq'
    | brk => exact False.elim hq'
    | cont => exact False.elim hq'
/-- C(e, .., k = v, ..) -/
theorem pmk_x (T : XCls X.K C) (iC : PySem.W.findIn X.K (.ref C) "__init__" = some (some (.ref f))) (tI : PySem.W.typeIn X.K (.ref f) = some (.type "function")) (F : FnOk X.prog X.w X.K X.mg X.base CX k f fd ps sp) (hr : Room (k + 1) X.A) (hg : Gl X x) (hm : X.mg x = some (.ref C)) (hb : KBn X.K fd ps (n + 1) ks g gV) (hx : Passes CX X (fun _ _ _ => False)) (ha : PA X (e :: es) t) (hkw : PK X kws tk)
    (hall : (backToKw pos (keywordEach kws X.env)).all (·.1.isSome) = true := by rfl) (hks : (backToKw pos (keywordEach kws X.env)).filterMap (·.1) = ks := by rfl) (hdb : (x == ("__debug__" : Str)) = false := by decide)
    (he : starEach (e :: es) X.env = (false, eval e X.env) :: starEach es X.env := by rfl) (hpl : ((backTo pos (starEach (e :: es) X.env)).any (·.1) || (backToKw pos (keywordEach kws X.env)).any (·.1.isNone)) = false := by rfl) :
    PMk X (.Call (.Name x p) (e :: es) kws pos) (tMkX C n ks.length sp gV t tk) := fun pins s σ H Q I h => by
  refine wpAny_Call_Name_kw (ld_glob I hg hm ?_ hdb)
  refine PySem.W.callWith_KW (h₀ := X.base) I.ok.mod.kin T.kC hall (thn (ha.run pos pins s σ H _ I h) fun us s1 ⟨vs, H1, I1, r, q⟩ => ?_) hpl he
  refine thn (hkw.run pos pins s1 σ H1 _ I1 q) fun ws s2 ⟨zs, H2, I2, rz, l1, l2, l3, q2⟩ => ⟨I2.kIn, ?_⟩
  rw [hks]
  exact run_mkX T iC tI F hr hb hx I2 r rz l1 l2 l3 q2
end
end Pf

namespace Pf
open PySem L2
/-! ### the promise of an __init__ of errors, so that its error can be kept as a value or raised -/
def spY (K : PySem.W.Frag) (C : Addr) (Pre : List D → Prop) (Post : List D → List (Str × D) → Prop) : Sp := fun vs H Q _ => ∃ (M : Addr → Bool) (H1 : Hp) (a : Addr) (ws : List V) (ds : List D), vs = .ref a :: ws ∧ H1 a = none ∧ H = upd H1 a (exo a C none) ∧ Al M H1 ∧ RepL K (hd M H1) ws ds ∧ Pre ds ∧
  ∀ H2 gs dx fvs, Post ds gs → Same H1 H2 → H1 dx = none → dx ≠ a → H2 a = some (exo a C (some dx)) → H2 dx = some (exd dx fvs) → RepF K (hd (hid (hid M a) dx) H2) fvs gs → Q .non H2
section
variable {K : PySem.W.Frag} {C : Addr} {N : List Str} {vs : List V} {H : Hp} {Q : VK} {E E' : XK} {cd f : Str} {Pre : List D → Prop} {Post : List D → List (Str × D) → Prop}
theorem spY_len {n : Nat} (h : ∀ ds, Pre ds → ds.length = n) (s : spY K C Pre Post vs H Q E) : vs.length = n + 1 := by
  obtain ⟨M, H1, a, ws, ds, rfl, _, _, _, r, pre, _⟩ := s
  rw [List.length_cons, r.length, h ds pre]
/-- self.code = text, self.f = copied(value) -/
theorem initY1 (T : XCls K C) (n1 : PySem.W.findIn K (.ref C) "code" = some none) (n2 : PySem.W.findIn K (.ref C) f = some none) (hs : spY K C Pre (postX1 cd f) vs H Q E) (hl : ∀ ds, Pre ds → ds.length = 1) :
    tSeq (tXst K "code" (tVar 0) (tC (.str cd))) (tXst K f (tVar 0) (tCall (spD K Pre fun ds d => ds = [d]) [] E' (tCons (tVar 1) tNil))) { nx := fun _ H' => Q .non H', rt := Q } (L2.start N vs) H := by
  obtain ⟨M, H1, a, ws, ds, rfl, ha, rfl, al, r, pre, q⟩ := hs
  match ws, r.length.trans (hl ds pre) with
  | [w], _ =>
  refine ⟨.ref a, rfl, a, C, rfl, T, n1, .inl ⟨upd_same, fun dx hx ne => ?_⟩⟩
  have hx1 : H1 dx = none := by
    rw [upd_ne ne] at hx
    exact hx
  rw [upd_over]
  have s : Same H1 (upd (upd H1 a (exo a C (some dx))) dx (exd dx [(("code" : Str), V.str cd)])) := same_upd2 ha hx1
  refine ⟨w, rfl, hid (hid M a) dx, ds, fun b m => ?_, ?_, pre, fun v d H3 pd s3 r3 => ?_⟩
  · by_cases e1 : b = dx
    · subst e1
      exact ⟨_, upd_same⟩
    by_cases e2 : b = a
    · subst e2
      exact ⟨_, by rw [upd_ne e1, upd_same]⟩
    rw [hid_ne e1, hid_ne e2] at m
    obtain ⟨o, h⟩ := al b m
    exact ⟨o, s _ _ h⟩
  · rw [List.append_nil]
    refine r.mono fun b o h => ?_
    obtain ⟨m, h⟩ := hd_of h
    exact hd_at (by rw [hid_ne (ne_of_none h hx1), hid_ne (ne_of_none h ha)]; exact m) (s _ _ h)
  have ea : H3 a = some (exo a C (some dx)) := s3 _ _ (by rw [upd_ne ne.symm, upd_same])
  have ed : H3 dx = some (exd dx [(("code" : Str), V.str cd)]) := s3 _ _ upd_same
  refine ⟨.ref a, rfl, a, C, rfl, T, n2, .inr ⟨dx, _, ea, ed, by simp, ?_⟩⟩
  have r4 : Rep K (hd (hid (hid M a) dx) (upd H3 dx (exd dx [(f, v), (("code" : Str), V.str cd)]))) v d := r3.mono fun b o h => by
    obtain ⟨m, h⟩ := hd_of h
    have nb : b ≠ dx := fun e => by
      rw [e, hid_same] at m
      cases m
    exact hd_at m (by rw [upd_ne nb]; exact h)
  exact q _ _ dx _ ⟨d, pd, rfl⟩ (fun b o h => by
    rw [upd_ne (ne_of_none h hx1)]
    exact s3 _ _ (s _ _ h)) hx1 ne (by rw [upd_ne ne.symm]; exact ea) upd_same (.cons r4 (.cons (.str cd) .nil))
end
/-! ### raise on data -/
/-- what the frame wishes of an error that leaves it -/
def RaiseOk (F : Fm) (PX : Addr → List (Str × D) → Prop) : Prop := ∀ (C : Addr) (gs : List (Str × D)) (dx : Addr) (fvs : List (Str × V)) (H' : Hp), PX C gs → StepB F.mv F.H0 H' → F.H0 dx = none → H' dx = some (.xd fvs) → RepF F.K (hd F.M0 H') fvs gs → F.E (.ref C) (some dx) H'
section
variable {F : Fm} {δ : List SD} {t tk : TA} {C : Addr} {R : PD} {PX : Addr → List (Str × D) → Prop}
theorem do_raiseX {n m : Nat} {gV : List V → List V → List V} {gD : List D → List D → List D} {Pre : List D → Prop} {Post : List D → List (Str × D) → Prop}
    (hg : ∀ (H : Hp) (x : V) (vs zs : List V) (ds es : List D), RepL F.K H vs ds → RepL F.K H zs es → ds.length = n → es.length = m → ∃ ws, gV (x :: vs) zs = x :: ws ∧ RepL F.K H ws (gD ds es))
    (ok : RaiseOk F PX) (h : EvA F t δ fun ds => EvA F tk δ fun es => ds.length = n ∧ es.length = m ∧ n ≤ 1000 ∧ Pre (gD ds es) ∧ ∀ gs, Post (gD ds es) gs → PX C gs) :
    Do F (fun _ σ H => tMkX C n m (spY F.K C Pre Post) gV t tk σ H fun cls d H' => F.E cls d H') δ R := fun M σ H E c _ _ _ _ =>
  h M σ H _ c fun vs ds H1 p1 c1 e1 r1 => p1 M σ H1 _ c1 fun zs es H2 p2 c2 e2 r2 => by
    obtain ⟨l1, l2, l3, pre, po⟩ := p2
    have r1' := r1.mono (hd_step c1 e2)
    refine ⟨by rw [r1.length, l1], by rw [r2.length, l2], l3, fun a ha => ?_⟩
    obtain ⟨ws, ew, rw'⟩ := hg _ (.ref a) vs zs ds es r1' r2 l1 l2
    rw [ew]
    refine ⟨M, H2, a, ws, gD ds es, rfl, ha, rfl, c2.al, rw', pre, fun H3 gs dx fvs pg s hx ne ea ed rf => ⟨rfl, dx, fvs, ea, ed, hx, ?_⟩⟩
    have none0 : ∀ {b : Addr}, H2 b = none → ¬ F.mv b := fun hb => c2.nob hb
    have back : ∀ {b : Addr}, H2 b = none → F.H0 b = none := fun {b} hb => by
      cases z : F.H0 b with
      | none => rfl
      | some o =>
        rw [c2.fr b o (none0 hb) z] at hb
        cases hb
    have s4 : Same H2 (upd (del H3 a) dx (.xd fvs)) := fun b o h => by
      rw [upd_ne (ne_of_none h hx), del_ne (ne_of_none h ha)]
      exact s _ _ h
    refine ok C gs dx fvs _ (po gs pg) (c2.fr.trans (StepB.of s4)) (back hx) upd_same (rf.mono fun b o h => ?_)
    obtain ⟨m, h⟩ := hd_of h
    have nb : b ≠ dx := fun e => by
      rw [e, hid_same] at m
      cases m
    have na : b ≠ a := fun e => by
      rw [hid_ne nb, e, hid_same] at m
      cases m
    rw [hid_ne nb, hid_ne na] at m
    refine hd_at ?_ (by rw [upd_ne nb, del_ne na]; exact h)
    cases e : F.M0 b with
    | false => rfl
    | true =>
      rw [c2.m0 b e] at m
      cases m
end
end Pf

namespace Pf
open PySem L2
/-! ### defs that may raise -/
/-- a promise on data, of an answer or of an error -/
def spR (K : PySem.W.Frag) (Pre : List D → Prop) (Post : List D → D → Prop) (PX : List D → Addr → List (Str × D) → Prop) : Sp := fun vs H Q E => ∃ (M : Addr → Bool) (ds : List D), Al M H ∧ RepL K (hd M H) vs ds ∧ Pre ds ∧
  (∀ v d H', Post ds d → Same H H' → Rep K (hd M H') v d → Q v H') ∧ ∀ C gs dx fvs H', PX ds C gs → Same H H' → H dx = none → H' dx = some (.xd fvs) → RepF K (hd M H') fvs gs → E (.ref C) (some dx) H'
section
variable {K : PySem.W.Frag} {vs : List V} {H : Hp} {Q : VK} {E : XK} {N : List Str} {t : TS} {Pre : List D → Prop} {Post : List D → D → Prop} {PX : List D → Addr → List (Str × D) → Prop}
theorem spR_len {n : Nat} (h : ∀ ds, Pre ds → ds.length = n) (s : spR K Pre Post PX vs H Q E) : vs.length = n := by
  obtain ⟨M, ds, _, r, pre, _⟩ := s
  rw [r.length, h ds pre]
/-- into a def that may raise -/
theorem enterR (hs : spR K Pre Post PX vs H Q E) (hb : ∀ (M : Addr → Bool) (ds : List D), Pre ds → ds.length = vs.length → RaiseOk ⟨K, none, M, H, E, 0, []⟩ (PX ds) → Do ⟨K, none, M, H, E, 0, []⟩ t (slots N ds) { nx := fun _ => Post ds .non, rt := Post ds }) :
    t { nx := fun _ H' => Q .non H', rt := Q } (L2.start N vs) H := by
  obtain ⟨M, ds, al, r, pre, q, qx⟩ := hs
  have hl := r.length
  have c : Ctx ⟨K, none, M, H, E, 0, []⟩ M (L2.start N vs) H (slots N ds) := by
    refine ⟨al, al, fun _ h => h, StepB.refl _ _, ⟨fun b z => (nomatch z), fun a h => (nomatch h)⟩, ?_, ?_, fun i j x y p h1 h2 hp _ => absurd hp (no_own h1), fun i x p h hp => absurd hp (no_own h)⟩
    · unfold L2.start slots
      rw [List.length_append, List.length_append, List.length_map, List.length_map, List.length_replicate, List.length_replicate, hl]
    · unfold L2.start slots
      rw [hl]
      exact sl_base rfl _ r
  have ok : RaiseOk ⟨K, none, M, H, E, 0, []⟩ (PX ds) := fun C gs dx fvs H' px s h0 hx rf => qx C gs dx fvs H' px (fun a o h => s a o (mv_none rfl rfl a) h) h0 hx rf
  refine hb M ds pre hl.symm ok M _ H _ c (fun M' σ' H' δ' p c' s => ?_) (fun v d M' σ' H' δ' p c' s r' => ?_) (fun _ _ _ _ p => p.elim) (fun _ _ _ _ p => p.elim)
  · exact q _ _ H' p (fun a o h => c'.fr a o (mv_none rfl rfl a) h) .non
  · exact q v d H' p (fun a o h => c'.fr a o (mv_none rfl rfl a) h) (r'.mono (same_hd_le fun a h => c'.m0 a h))
end
section
variable {F : Fm} {δ : List SD} {ta : TA} {P : D → Prop} {Pre : List D → Prop} {Post : List D → D → Prop} {PX : List D → Addr → List (Str × D) → Prop} {QX : Addr → List (Str × D) → Prop}
/-- a call of a def that may raise: its errors leave the frame -/
theorem ev_callR (ok : RaiseOk F QX) (h : EvA F ta δ fun ds => Pre ds ∧ (∀ d, Post ds d → P d) ∧ ∀ C gs, PX ds C gs → QX C gs) : Ev F (tCall (spR F.K Pre Post PX) [] F.E ta) δ P := fun M σ H Q c q =>
  h M σ H _ c fun vs ds H1 p c1 e1 r => by
    rw [List.append_nil]
    refine ⟨M, ds, c1.al, r, p.1, fun v d H2 pd s r2 => q v d H2 (p.2.1 d pd) (c1.same s) (e1.trans (StepB.of s)) r2, fun C gs dx fvs H2 px s hx hd' rf => ?_⟩
    have back : F.H0 dx = none := by
      cases z : F.H0 dx with
      | none => rfl
      | some o =>
        have nb : ¬ F.mv dx := c1.nob hx
        rw [c1.fr dx o nb z] at hx
        cases hx
    exact ok C gs dx fvs H2 (p.2.2 C gs px) (c1.fr.trans (StepB.of s)) back hd' (rf.mono (same_hd_le fun a m => c1.m0 a m))
end
end Pf

/-! try .. except (A, B, C) as e: the clause's tuple is made in the heap, untracked -/
namespace PfT
open PySem PySem.Spec PyProof.Rows L2 L2H HandSPX
theorem fly_grow {base h h' : Heap} {l : List Env} {e : Addr} {Z : Obj → Prop} (f : FlyingZ base l e Z h) (k : ∀ b o, h.get? b = some o → h'.get? b = some o) : FlyingZ base l e Z h' := by
  obtain ⟨f1, f2, f3, oe, vs, T, oT, ts, g1, g2, g3, g4, g5, g6, g7, g8, g9⟩ := f
  refine ⟨fun b o z => k _ _ (f1 b o z), f2, ?_, oe, vs, T, oT, ts, k _ _ g1, g2, g3, g4, g5, g6, k _ _ g7, g8, g9⟩
  clear f1 f2 g1 g2 g3 g4 g5 g6 g7 g8 g9
  induction l with
  | nil => trivial
  | cons env l ih =>
    obtain ⟨m, ⟨L, o, q1, q2, q3, q4⟩, r⟩ := f3
    exact ⟨m, ⟨L, o, q1, q2, k _ _ q3, q4⟩, ih r⟩
theorem slots_grow {h h' : Heap} (k : ∀ b o, h.get? b = some o → h'.get? b = some o) : h.UpToSlots h' := fun b o z _ => ⟨o.slots, k b o z⟩
/-- what the clause 'except (..) as n' wishes of an error of the body: slot i is n's -/
def wAsT (K : PySem.W.Frag) (cs : List Value) (i : Nat) (ts : Addr → Value → Option Addr → TS) (Wout : WX) (D : Ends) : WX := fun cls d σ H =>
  ∃ b, PySem.W.exmAny K cls cs = some b ∧ (b = true → ∀ a, H a = none → ts a cls d { nx := fun σ' H' => D.nx (σ'.set i none) H', rt := D.rt, bk := fun σ' H' => D.bk (σ'.set i none) H', ct := fun σ' H' => D.ct (σ'.set i none) H' } (σ.set i (some (.ref a))) H) ∧
    (b = false → Wout cls d σ H)
/-- the clause's expression tells these classes -/
def Tells (X : Cx) (ty : Expr) (cs : List Value) : Prop := ∀ (a : Addr) (oe : Obj) (pn : List (Addr × Obj)) (σ : L2.St) (H : Hp) (s : Shared) (Q : Value → Shared → Prop) (E : Value → Shared → Prop), Inv (X.suite a ((a, oe) :: pn)) [] σ H s →
  (∀ spec h2, (∀ b o, s.heap.get? b = some o → h2.get? b = some o) → (∀ cls b, PySem.W.Looks (model X.prog X.w) h2 (typeOf (.ref a)) cls → PySem.W.exmAny X.K cls cs = some b → PySem.W.Looks (model X.prog X.w) h2 (excMatches (.ref a) spec) b) → Q spec { s with heap := h2 }) →
  wpAny (model X.prog X.w) (X.A.mark (some (.ref a))) (eval ty X.env) Q E s
section
variable {X : Cx} {n : Str} {ty : Expr} {cs : List Value} {i : Nat} {body suite : List Stmt} {b₀ : Stmt} {pos pos' : Pos} {tb : WX → TS} {ts : Addr → Value → Option Addr → TS} {Wout : WX}
theorem ps_try_asT (hs : X.stack = X.env :: X.outer) (hf : X.env.frame = some X.env.locals) (hN : X.N.Nodup) (hi : X.N[i]? = some n) (hln : X.env.kindOf n = some .local) (tell : Tells X ty cs) (tk : L2.Takes X Wout)
    (hb : ∀ (W : WX) (pn : List (Addr × Obj)) (xe : Value → Shared → Prop), (∀ q ∈ X.pn, q ∈ pn) → L2.Takes (X.tr pn xe) W → PassesOwn (model X.prog X.w) X.A X.env xe → PSs (X.tr pn xe) body (tb W))
    (hsu : ∀ (a : Addr) (oe : Obj) (cls : Value) (d : Option Addr) (pn : List (Addr × Obj)), Zc cls d oe → (∃ vs, oe.data = .fields vs) → PSs (X.suite a ((a, oe) :: pn)) (b₀ :: suite) (ts a cls d)) :
    PS X (.Try body [.ExceptHandler (some ty) (some n) (b₀ :: suite) pos'] [] [] pos) (fun D σ H => tb (wAsT X.K cs i ts Wout D) D σ H) := by
  refine ⟨fun pins s σ H D I h => ?_⟩
  have ok := I.ok
  have frames : X.A.frames = some (X.env :: X.outer) := by rw [ok.frames, hs]
  have loc : Loc X.env.scope n := .inl hln
  refine wpAny_Try_except (wpAny_mono ((hb (wAsT X.K cs i ts Wout D) (X.pn ++ pins) (fun e s₁ => wpAny (model X.prog X.w) X.A (noteFrame e X.env) (fun _ s₂ => wpAny (model X.prog X.w) X.A (setFlight e none) (fun _ s₃ =>
    wpAny (model X.prog X.w) X.A (handleBy e X.env [.ExceptHandler (some ty) (some n) (b₀ :: suite) pos']) (SP X pins D) X.xe s₃) X.xe s₂) X.xe s₁) (fun q hq => List.mem_append_left _ hq) (fun u s' xx => ?_) PassesOwn.looking).run [] s σ H D (I.toTry _) h) (fun f s1 sp => ?_) (fun e s1 he => he))
  · obtain ⟨a, B, sI, pins', σ', H', cls, d, rfl, J', nb, up, sky, na, os, ag, b, exm, yes, no⟩ := xx
    have J : Inv X pins σ' H' sI := J'.ofTry ok
    have sky' : Sky B (X.env :: X.outer) a (Zc cls d) X.env.locals s'.heap := by rw [← hs]; exact sky
    show wpAny (model X.prog X.w) X.A (noteFrame (.ref a) X.env) _ _ _
    refine Sky.land Zc.steady frames hf sky' fun h3 fl3 up3 => ?_
    have J3 : Inv X pins σ' H' { s' with heap := h3 } := J.landed nb fl3.1 (up.trans up3) os ag
    obtain ⟨oe3, vs3, he3, hz3, hd3⟩ := fl3.there
    have out : ∀ {h : Heap} {o : Obj} {vs : Array Value}, h.FunFrames B (X.env :: X.outer) → h.get? a = some o → o.data = .fields vs → a ∉ frs (X.env :: X.outer) := fun {h o vs} ff e dd hm => by
      obtain ⟨_, o', e', hnf⟩ := ff.mem hm
      rw [e] at e'
      cases e'
      exact hnf _ dd
    have nfr := out fl3.2.2.1 he3 hd3
    have nL : a ≠ X.env.locals := fun z => nfr (List.mem_filterMap.mpr ⟨X.env, List.mem_cons_self, by rw [hf, z]⟩)
    have nF : a ∉ X.fs := fun hm => by
      obtain ⟨e, he, q⟩ := List.mem_filterMap.mp hm
      exact nfr (List.mem_filterMap.mpr ⟨e, List.mem_cons_of_mem _ he, q⟩)
    have S3 := J3.suite he3 hd3 na nL nF
    refine wpAny_handleBy_cons (codeAny_handlers_test ?_) (by intro q; cases q)
    refine tell a oe3 (X.pn ++ pins) σ' H' { s' with heap := h3 } _ _ S3 fun spec h2 k2 LM => ?_
    have LT : PySem.W.Looks (model X.prog X.w) h2 (typeOf (.ref a)) cls := fun A Q E s k q => wpAny_typeOf_ref (k _ _ (k2 _ _ he3)) (by rw [hz3.1]; exact q)
    have fl2 := fly_grow fl3 k2
    have up2 := (up.trans up3).trans (slots_grow k2)
    refine (LM cls b LT exm).here ?_
    cases b with
    | true =>
      refine codeAny_handlers_suite_as ?_
      refine HandSPX.lands_againZ fl2 fun h4 fl4 up4 => ?_
      have J4 : Inv X pins σ' H' { s' with heap := h4 } := J.landed nb fl4.1 (up2.trans up4) os ag
      obtain ⟨oe4, vs4, he4, hz4, hd4⟩ := fl4.there
      have S4 := J4.suite he4 hd4 na nL nF
      refine store_ok (X := X.suite a ((a, oe4) :: (X.pn ++ pins))) (v := .ref a) S4 hN hi loc rfl (fun s5 S5 => ?_) (.inr hln)
      refine wpAny_mono ((hsu a oe4 cls d (X.pn ++ pins) hz4 ⟨_, hd4⟩).run [] s5 _ H' _ S5 (yes rfl a na)) (fun f s6 sp => ?_) (fun _ _ z => False.elim z)
      have gone : ∀ {σ6 : L2.St} {H6 : Hp} {Q : Shared → Prop}, Inv (X.suite a ((a, oe4) :: (X.pn ++ pins))) [] σ6 H6 s6 → (∀ s7, Inv X pins (σ6.set i none) H6 s7 → Q s7) →
          wpAny (model X.prog X.w) X.A (do bindName X.env n .none; unbindBehindTheSuite X.env n pos') (fun _ s7 => Q s7) X.xe s6 := fun {σ6 H6 Q} S6 hq => gone_ok (S6.unsuite ok) hN hi hln hq
      cases f with
      | ret u =>
        obtain ⟨v6, σ6, H6, S6, r6, q6⟩ := sp
        exact gone S6 fun s7 J7 => ⟨_, _, _, J7, r6, q6⟩
      | _ =>
        obtain ⟨σ6, H6, S6, q6⟩ := sp
        exact gone S6 fun s7 J7 => ⟨_, _, J7, q6⟩
    | false =>
      show wpAny _ X.A (handleBy (.ref a) X.env []) _ _ _
      refine wpAny_handleBy_nil ?_
      obtain ⟨k1, k2', k3, oe, vs, T, oT, ts', he, hz, hd, h1, hr⟩ := id fl2
      unfold PySem.passOn
      refine wpAny_bind (wpAny_field he hd h1 ?_)
      rw [if_neg (show ¬ ((Value.ref T == Value.none) = true) from by simp)]
      have fin : wpAny (model X.prog X.w) X.A (setFlight (.ref a) X.env.frame) (fun _ s4 => wpAny (model X.prog X.w) X.A (throw (.ref a) : Sem Flow) (SP X pins D) X.xe s4) X.xe { s' with heap := h2 } := by
        rw [hf]
        refine HandSPX.setFlight_upZ fl2 fun h4 hh4 up4 => wpAny_throw (tk _ _ ?_)
        exact ⟨a, B, sI, pins, σ', H', cls, d, rfl, J, nb, up2.trans up4, .inr (.inr (by rw [hs]; exact hh4)), na, os, ag, no rfl⟩
      first
        | exact wpAny_bind (wpAny_pure (wpAny_bind fin))
        | exact wpAny_bind fin
  · cases f with
    | next =>
      obtain ⟨σ', H', J', q⟩ := sp
      exact wpAny_execs_nil ⟨σ', H', J'.ofTry ok, q⟩
    | ret u =>
      obtain ⟨v, σ', H', J', r, q⟩ := sp
      exact ⟨v, σ', H', J'.ofTry ok, r, q⟩
    | _ =>
      obtain ⟨σ', H', J', q⟩ := sp
      exact ⟨σ', H', J'.ofTry ok, q⟩
end
end PfT

namespace PfT
open PySem PySem.Spec PyProof.Rows L2 L2H HandSPX
section
variable {X : Cx} {x1 x2 x3 : Str} {c1 c2 c3 : Value} {p1 p2 p3 pos : Pos} {k0 : Nat}
theorem name_in {a : Addr} {oe : Obj} {pn : List (Addr × Obj)} {σ : L2.St} {H : Hp} {s : Shared} {x : Str} {c : Value} {p : Pos} {Q : Value → Shared → Prop} {E : Value → Shared → Prop} (S : Inv (X.suite a ((a, oe) :: pn)) [] σ H s) (hc : Names X x c) (q : Q c s) :
    wpAny (model X.prog X.w) (X.A.mark (some (.ref a))) (eval (.Name x p) X.env) Q E s := by
  obtain ⟨hg, hdbg, hm | ⟨hm, hv, hnn⟩⟩ := hc
  · exact ld_glob (X := X.suite a ((a, oe) :: pn)) S hg hm q hdbg
  · exact ld_blt (X := X.suite a ((a, oe) :: pn)) S hg hm hv q hnn hdbg
theorem tells3 (h1 : Names X x1 c1) (h2 : Names X x2 c2) (h3 : Names X x3 c3) : Tells X (.Tuple [.Name x1 p1, .Name x2 p2, .Name x3 p3] k0 pos) [c1, c2, c3] := fun a oe pn σ H s Q E S q => by
  refine wpAny_Tuple_spliced ?_
  show wpAny _ _ (spliced ((false, eval (.Name x1 p1) X.env) :: (false, eval (.Name x2 p2) X.env) :: (false, eval (.Name x3 p3) X.env) :: [])) _ _ s
  refine Calls.spliced_cons (name_in S h1 (Calls.spliced_cons (name_in S h2 (Calls.spliced_cons (name_in S h3 (Calls.spliced_nil ⟨by show 3 ≤ sizeLine; rw [sizeLine_eq]; omega, ?_⟩))))))
  have k : ∀ b o, s.heap.get? b = some o → (s.heap.push { cls := .type "tuple", data := .seq [c1, c2, c3].toArray }).get? b = some o := fun b o e => Heap.get?_push_of_some _ e
  refine q (.ref s.heap.objs.size) _ k fun cls b LT ex => ?_
  exact PySem.W.exm_tup3 (fun b o z => k _ _ (S.kIn b o z)) LT (Heap.get?_push_size _ rfl) ex
end
end PfT

/-! a def that is handed the error that is in hand: its promise speaks of this error -/
namespace PfT
open PySem PySem.Spec PyProof.Rows L2 L2H HandSPX
structure FnE (P : Program) (w : World) (K : PySem.W.Frag) (mg : Str → Option Value) (base : Heap) (CX : CXT) (k : Nat) (f : Addr) (fd : FuncData) (ps : List Str) (p : Addr × Obj) (sp : Sp) : Prop where
  len : ∀ vs H Q E, sp vs H Q E → vs.length = ps.length
  run : ∀ (A : Around) (outer : List Env) (s : Shared) (H : Hp) (args : Args) (us : List Value) (vs : List V) (Q : VK) (E : XK), RoomH k A → PinOk outer H s p → Env0 P w K mg base A outer s H → BindsTo s fd args (ps.zip us) → Vals vs us → sp vs H Q E →
    codeAny (model P w) A (.call (.ref f) args) (CR CX outer P w H s Q E) s
section
variable {P : Program} {w : World} {K : PySem.W.Frag} {mg : Str → Option Value} {base : Heap} {CX : CXT} {k : Nat} {f : Addr} {x qual : Str} {st : Stmt} {fd : FuncData} {N ps : List Str} {sp : Sp} {p : Addr × Obj}
theorem fnE_of (F : Fun K x qual st f fd) (S : FnScope N ps (defScope st)) (len : ∀ vs H Q E, sp vs H Q E → vs.length = ps.length)
    (hb : ∀ (cdv : Value) (A : Around) (outer : List Env) (s : Shared) (H : Hp) (vs : List V) (Q : VK) (E : XK), RoomH k (A.deeper (envOfC qual (defScope st) s.heap.objs.size f cdv)) → sp vs H Q E →
      ∃ t, PSs (cxH CX P w K mg base N qual (defScope st) f cdv A outer s H E p) (defBody st) t ∧ t { nx := fun _ H' => Q .non H', rt := Q } (L2.start N vs) H) :
    FnE P w K mg base CX (k + 1) f fd ps p sp := by
  obtain ⟨oc, od, kV, doc, pm, an, cdv, ct, osl, rfl, lk, hcd⟩ := F.ex
  refine ⟨len, fun A outer s H args us vs Q E hr hpin e0 hbd r hsp => ?_⟩
  have hl := len _ _ _ _ hsp
  have inK : K.In s.heap := e0.mod.kin.keeps fun b o e => (e0.bs b o e).1
  have lim : s.heap.NoLimit := e0.mod.nolimit.keeps fun b o e => (e0.bs b o e).1
  have kinds : ∀ y ∈ ps.zip us, (defScope st).names.lookup y.1 = some .local ∨ ((defScope st).names.lookup y.1 = some .cell ∧ ((cellsFrom (s.heap.objs.size + 1) (defScope st).names []).lookup y.1).isSome = true) := fun ⟨n, v⟩ hy =>
    (S.par n (List.of_mem_zip hy).1).imp id fun q => ⟨q, PySem.W.cellsFrom_some _ _ _ (.inl q)⟩
  refine codeAny_call_function hr.depth (inK _ _ lk) rfl S.co S.gen rfl (PySem.W.codeRec_of inK hcd) (hbd _ _ _ _ (wpAny_newFunctionEnv_cells S.kind kinds fun env he s1 z => ?_))
  subst he
  refine ⟨lim.keeps z.toInCall.keep, codeAny_func ?_⟩
  obtain ⟨t, ht, hq⟩ := hb cdv A outer s H vs Q E (hr.deeper _) hsp
  refine wpAny_mono (ht.run [] s1 (L2.start N vs) H _ (inv_startH S hpin e0 hl r z) hq) (fun fl s' hs => ?_) fun e s' hs => hs
  cases fl with
  | ret u =>
    obtain ⟨v, σ', H', J, rv, q⟩ := hs
    exact ⟨v, H', J.os, J.bare, J.base, J.hok, rv, q⟩
  | next =>
    obtain ⟨σ', H', J, q⟩ := hs
    exact ⟨.non, H', J.os, J.bare, J.base, J.hok, rfl, q⟩
  | brk => exact hs.elim fun _ h => h.elim fun _ h => h.2.elim
  | cont => exact hs.elim fun _ h => h.elim fun _ h => h.2.elim
end
section
variable {X : Cx} {CX : CXT} {k : Nat} {f C d a : Addr} {fd : FuncData} {ps : List Str} {sp : Sp} {E : XK} {x : Str} {q pos : Pos} {e : Expr} {es : List Expr} {t : TA} {te : TE} {oe : Obj} {n : Str}
/-- a call of such a def within the suite -/
theorem pe_callE (F : FnE X.prog X.w X.K X.mg X.base CX k f fd ps (a, oe) sp) (hr : RoomH k X.A) (hp : (a, oe) ∈ X.pn) (hg : Gl X x) (hm : X.mg x = some (.ref f)) (hk : PySem.W.keepIn X.K (.ref f) = true) (hb : Binds X.K fd ps []) (hx : Passes CX X E)
    (ha : PA X (e :: es) t) (hdb : (x == ("__debug__" : Str)) = false := by decide) (he : starEach (e :: es) X.env = (false, eval e X.env) :: starEach es X.env := by rfl) (hpl : (backTo pos (starEach es X.env)).any (·.1) = false := by rfl) :
    PE X (.Call (.Name x q) (e :: es) [] pos) (tCall sp [] E t) := by
  refine ⟨fun pins s σ H Q I h => wpAny_Call_Name_kw (ld_glob I hg hm ?_ hdb)⟩
  refine PySem.W.callWith_K (h₀ := X.base) I.ok.mod.kin hk (thn (ha.run pos pins s σ H _ I h) fun us s1 ⟨vs, H1, I1, r, z⟩ => ⟨I1.kIn, ?_⟩) he hpl
  have z : sp vs H1 Q E := by
    have z' : sp (vs ++ []) H1 Q E := z
    rw [List.append_nil] at z'
    exact z'
  have hl : us.length = ps.length := by rw [← r.length]; exact F.len _ _ _ _ z
  have b := hb s1 us I1.kIn (by rw [List.append_nil]; exact hl)
  rw [List.append_nil] at b
  have P1 := I1.pin (a, oe) (List.mem_append_left _ hp)
  have pin : PinOk X.stack H1 s1 (a, oe) := ⟨P1.1, P1.2.1, fun m => (List.mem_cons.mp (I1.stkSub a m)).elim P1.2.2.1 P1.2.2.2.1, P1.2.2.2.2⟩
  refine wpAny_call (codeAny_mono (F.run X.A X.stack s1 H1 ⟨us, []⟩ us vs Q E hr pin I1.env0 b r z) fun r s' hq => ?_)
  cases r with
  | error e => exact hx pins σ H1 s1 e s' I1 hq
  | ok fl =>
    cases fl with
    | ret u => exact I1.after hq
    | next => exact hq.elim
    | brk => exact hq.elim
    | cont => exact hq.elim
/-- e.f, e an error that is pinned -/
def tXfp (a d : Addr) (f : Str) (te : TE) : TE := fun σ H Q => te σ H fun x H1 => x = .ref a ∧ ∃ (fs : List (Str × V)) (v : V), H1 d = some (.xd fs) ∧ fs.lookup f = some v ∧ Q v H1
theorem pe_xfp (hp : (a, oe) ∈ X.pn) (hz : Zc (.ref C) (some d) oe) (hf : ∃ vs, oe.data = .fields vs) (T : ExcC X.K C) (no : PySem.W.findIn X.K (.ref C) n = some none) (he : PE X e te) (hb : attributeBase e n X.env (eval e X.env) = eval e X.env := by rfl) : PE X (.Attribute e n pos) (tXfp a d n te) := by
  refine ⟨fun pins s σ H Q I h => attr_of hb (thn (he.run pins s σ H _ I h) fun u s1 hh => ?_)⟩
  obtain ⟨x, H1, I1, rx, ex, fs, v, ea, l, z⟩ := hh
  subst ex
  obtain rfl : u = Value.ref a := rx
  obtain ⟨ha, _⟩ := I1.pin (a, oe) (List.mem_append_left _ hp)
  obtain ⟨vs, hd⟩ := hf
  have hx : ObjOk X.prog X.w H1 s1.heap d (.xd fs) := I1.hok d _ ea
  obtain ⟨mA, hns, hr⟩ := hx
  obtain ⟨od, ho, hl⟩ := lookIn_ns hns
  obtain ⟨u, hu, ru⟩ := RelO.some_of (v := v) (o := mA n) (by rw [← l]; exact hr n)
  have J : PySem.W.InstAt s1.heap a oe C (some od) := ⟨ha, hz.1, by unfold PySem.W.notCls; rw [hd] <;> rfl, by rw [hz.2]; exact ho⟩
  exact HandSPX.exc_get I1.kIn J T.hg T.hk T.hs (PySem.W.findObj_own T.hd no rfl (by rw [hl, hu])) (handed_of ru) ⟨v, H1, I1.tok _, ru, z⟩
end
end PfT

/-! cells told as things that are read (frozen), and told no more -/
namespace PfL
open PySem PySem.Spec PyProof.Rows L2 LamX HandSPX
def FzO (o : Obj) : HO := .frz o (.ext fun _ => True)
abbrev Zm := Addr → Option Obj
def fz (Z : Zm) (H : Hp) : Hp := fun b => match Z b with | some o => some (FzO o) | none => H b
def uz (Z : Zm) (H : Hp) : Hp := fun b => match Z b with | some _ => none | none => H b
section
variable {P : Program} {w : World} {H H' : Hp} {h h' B : Heap} {Z : Zm} {fs : List Addr}
theorem fz_in {b : Addr} {o : Obj} (e : Z b = some o) : fz Z H b = some (FzO o) := by unfold fz; rw [e]
theorem fz_out {b : Addr} (e : Z b = none) : fz Z H b = H b := by unfold fz; rw [e]
theorem uz_in {b : Addr} {o : Obj} (e : Z b = some o) : uz Z H b = none := by unfold uz; rw [e]
theorem uz_out {b : Addr} (e : Z b = none) : uz Z H b = H b := by unfold uz; rw [e]
theorem fzO_ok {b : Addr} {o : Obj} (e : h.get? b = some o) : ObjOk P w H h b (FzO o) := ⟨e, trivial, ⟨o, e⟩, fun _ _ _ _ => trivial⟩
/-- Z's things are not tracked, and lie so -/
def Out (Z : Zm) (H : Hp) (h : Heap) : Prop := ∀ b o, Z b = some o → H b = none ∧ h.get? b = some o
/-- Z's things are frozen -/
def In (Z : Zm) (H : Hp) : Prop := ∀ b o, Z b = some o → H b = some (FzO o)
theorem In.fz : In Z (fz Z H) := fun b o e => fz_in e
theorem z_none (z : In Z H) {b : Addr} (e : H b = none) : Z b = none := by
  cases q : Z b with
  | none => rfl
  | some o => rw [z b o q] at e; cases e
theorem z_not (z : Out Z H h) {b : Addr} {u : HO} (e : H b = some u) : Z b = none := by
  cases q : Z b with
  | none => rfl
  | some o => rw [(z b o q).1] at e; cases e
theorem hok_fz (x : HOk P w H h) (z : Out Z H h) : HOk P w (fz Z H) h := fun b u e => by
  cases q : Z b with
  | some o =>
    rw [fz_in q] at e
    cases e
    exact fzO_ok (z b o q).2
  | none =>
    rw [fz_out q] at e
    exact (x b u e).stay (fun _ _ _ r => r) (fun c r => by rw [fz_out (z_not z r)]; exact r) fun c xs r => by rw [fz_out (z_not z r)]; exact r
theorem hok_uz (x : HOk P w H h) (z : In Z H) : HOk P w (uz Z H) h := fun b u e => by
  cases q : Z b with
  | some o =>
    rw [uz_in q] at e
    cases e
  | none =>
    rw [uz_out q] at e
    have nz : ∀ c v, H c = some v → (∀ o, v ≠ FzO o) → Z c = none := fun c v r n => by
      cases s : Z c with
      | none => rfl
      | some o =>
        rw [z c o s] at r
        exact absurd (Option.some.inj r).symm (n o)
    exact (x b u e).stay (fun _ _ _ r => r) (fun c r => by rw [uz_out (nz c _ r fun o z => by cases z)]; exact r) fun c xs r => by rw [uz_out (nz c _ r fun o z => by cases z)]; exact r
theorem out_uz (x : HOk P w H h) (z : In Z H) : Out Z (uz Z H) h := fun b o e => ⟨uz_in e, (x b _ (z b o e)).1⟩
/-- a run from the frozen heap, told of the thawed ones -/
theorem un_thaw (z : Out Z H h) (u : Un fs [] (fz Z H) H' h h') (x : HOk P w H' h') : In Z H' ∧ Un fs [] H (uz Z H') h h' := by
  have zi : In Z H' := fun b o e => u.frzs b o _ (fz_in e)
  refine ⟨zi, ⟨fun b o e n nf nx => ?_, fun b o e n f nx => ?_, fun b o e n nx => ?_, u.there, fun b xs e => ?_, fun b o v e => ?_, fun b ps e => ?_⟩⟩
  · cases q : Z b with
    | some o' =>
      have := (z b o' q).2
      rw [e] at this
      cases this
      exact (x b _ (zi b _ q)).1
    | none => exact u.keep b o e (by rw [fz_out q]; exact n) nf nx
  · cases q : Z b with
    | some o' =>
      have := (z b o' q).2
      rw [e] at this
      cases this
      exact ⟨o.slots, (x b _ (zi b _ q)).1⟩
    | none => exact u.slot b o e (by rw [fz_out q]; exact n) f nx
  · cases q : Z b with
    | some o' => exact uz_in q
    | none =>
      rw [uz_out q]
      exact u.free b o e (by rw [fz_out q]; exact n) nx
  · have q := z_not z e
    rw [uz_out q]
    exact u.tups b xs (by rw [fz_out q]; exact e)
  · have q := z_not z e
    rw [uz_out q]
    exact u.frzs b o v (by rw [fz_out q]; exact e)
  · have q := z_not z e
    rw [uz_out q]
    exact u.tbls b ps (by rw [fz_out q]; exact e)
/-- a run from the thawed heap, told of the frozen ones -/
theorem un_freeze (z : In Z H) (x0 : HOk P w H h) (nf : ∀ b ∈ fs, H b = none) (u : Un fs [] (uz Z H) H' h h') (x : HOk P w H' h') : Out Z H' h' ∧ Un fs [] H (fz Z H') h h' := by
  have zo : Out Z H' h' := fun b o e => by
    have g := (x0 b _ (z b o e)).1
    refine ⟨u.free b o g (uz_in e) (by simp), u.keep b o g (uz_in e) (fun f => ?_) (by simp)⟩
    have := nf b f
    rw [z b o e] at this
    cases this
  refine ⟨zo, ⟨fun b o e n f nx => ?_, fun b o e n f nx => ?_, fun b o e n nx => ?_, u.there, fun b xs e => ?_, fun b o v e => ?_, fun b ps e => ?_⟩⟩
  · have q := z_none z n
    exact u.keep b o e (by rw [uz_out q]; exact n) f nx
  · have q := z_none z n
    exact u.slot b o e (by rw [uz_out q]; exact n) f nx
  · have q := z_none z n
    rw [fz_out q]
    exact u.free b o e (by rw [uz_out q]; exact n) nx
  · cases q : Z b with
    | some o =>
      rw [z b o q] at e
      cases e
    | none =>
      rw [fz_out q]
      exact u.tups b xs (by rw [uz_out q]; exact e)
  · cases q : Z b with
    | some o' =>
      rw [z b o' q] at e
      rw [fz_in q]
      exact e
    | none =>
      rw [fz_out q]
      exact u.frzs b o v (by rw [uz_out q]; exact e)
  · cases q : Z b with
    | some o =>
      rw [z b o q] at e
      cases e
    | none =>
      rw [fz_out q]
      exact u.tbls b ps (by rw [uz_out q]; exact e)
/-- the same of an exception's ground -/
theorem ub_freeze (z : In Z H) (x0 : HOk P w H h) (nf : ∀ b ∈ fs, H b = none) (u : UB fs (uz Z H) H' h B h') : Out Z H' B ∧ UB fs H (fz Z H') h B h' := by
  have zo : Out Z H' B := fun b o e => by
    have g := (x0 b _ (z b o e)).1
    refine ⟨u.free b o g (uz_in e), u.keep b o g (uz_in e) (fun f => ?_)⟩
    have := nf b f
    rw [z b o e] at this
    cases this
  refine ⟨zo, ⟨fun b o e n f => ?_, u.slot, fun b o e n => ?_, u.there, fun b xs e => ?_, fun b o v e => ?_, fun b ps e => ?_⟩⟩
  · have q := z_none z n
    exact u.keep b o e (by rw [uz_out q]; exact n) f
  · have q := z_none z n
    rw [fz_out q]
    exact u.free b o e (by rw [uz_out q]; exact n)
  · cases q : Z b with
    | some o =>
      rw [z b o q] at e
      cases e
    | none =>
      rw [fz_out q]
      exact u.tups b xs (by rw [uz_out q]; exact e)
  · cases q : Z b with
    | some o' =>
      rw [z b o' q] at e
      rw [fz_in q]
      exact e
    | none =>
      rw [fz_out q]
      exact u.frzs b o v (by rw [uz_out q]; exact e)
  · cases q : Z b with
    | some o =>
      rw [z b o q] at e
      cases e
    | none =>
      rw [fz_out q]
      exact u.tbls b ps (by rw [uz_out q]; exact e)
end
/-! ### calls from a frozen heap, to a frozen heap -/
section
variable {P : Program} {w : World} {K : PySem.W.Frag} {mg : Str → Option Value} {base : Heap} {A : Around} {outer : List Env} {s s' : Shared} {H : Hp} {Z : Zm} {Q : VK} {E : XK}
theorem env0_fz (e : Env0 P w K mg base A outer s H) (z : Out Z H s.heap) (nb : ∀ b o, base.get? b = some o → Z b = none) (nf : ∀ b ∈ frs outer, Z b = none) : Env0 P w K mg base A outer s (fz Z H) :=
  ⟨e.frames, e.mod, fun b o q => ⟨(e.bs b o q).1, by rw [fz_out (nb b o q)]; exact (e.bs b o q).2⟩, e.bsz, e.funs, fun b q => by rw [fz_out (nf b q)]; exact e.frf b q, hok_fz e.hok z, e.bare⟩
theorem env0_uz (e : Env0 P w K mg base A outer s H) (z : In Z H) : Env0 P w K mg base A outer s (uz Z H) :=
  ⟨e.frames, e.mod, fun b o q => ⟨(e.bs b o q).1, by rw [uz_out (z_none z (e.bs b o q).2)]; exact (e.bs b o q).2⟩, e.bsz, e.funs, fun b q => by rw [uz_out (z_none z (e.frf b q))]; exact e.frf b q, hok_uz e.hok z, e.bare⟩
theorem ce_thaw {u : Value} (z : Out Z H s.heap) (c : CE outer P w (fz Z H) s (fun v H' => In Z H' → Q v (uz Z H')) u s') : CE outer P w H s Q u s' := by
  obtain ⟨v, H', os, bare, un, hok, r, q⟩ := c
  obtain ⟨zi, un'⟩ := un_thaw z un hok
  exact ⟨v, uz Z H', os, bare, un', hok_uz hok zi, r, q zi⟩
theorem ce_freeze {u : Value} (e0 : Env0 P w K mg base A outer s H) (z : In Z H) (c : CE outer P w (uz Z H) s (fun v H' => (∀ b o, Z b = some o → H' b = none) → Q v (fz Z H')) u s') : CE outer P w H s Q u s' := by
  obtain ⟨v, H', os, bare, un, hok, r, q⟩ := c
  obtain ⟨zo, un'⟩ := un_freeze z e0.hok e0.frf un hok
  exact ⟨v, fz Z H', os, bare, un', hok_fz hok zo, r, q fun b o e => (zo b o e).1⟩
theorem cx_freeze {u : Value} (e0 : Env0 P w K mg base A outer s H) (z : In Z H) (c : L2.CX P w outer (uz Z H) s (fun cls d H' => (∀ b o, Z b = some o → H' b = none) → E cls d (fz Z H')) u s') : L2.CX P w outer H s E u s' := by
  obtain ⟨a, B, H', cls, d, rfl, fl, hok, ub, na, os, bare, q⟩ := c
  obtain ⟨zo, ub'⟩ := ub_freeze z e0.hok e0.frf ub
  have nz : Z a = none := by
    cases qz : Z a with
    | none => rfl
    | some o =>
      have g := (zo a o qz).2
      rw [fl.2.1] at g
      cases g
  refine ⟨a, B, fz Z H', cls, d, rfl, fl, hok_fz hok zo, ub', by rw [fz_out nz]; exact na, os, bare, q fun b o e => (zo b o e).1⟩
end
end PfL

/-! lambdas as values: made without parameters, or with one that has a written number -/
namespace PfL
open PySem PySem.Spec PyProof.Rows L2 LamX HandSPX
structure LF where
  qual : Str
  params : Arguments
  body : Expr
  scope : Scope
  cl : List (Str × Addr)
  c : Addr
  dV : Value
abbrev LF.fd (F : LF) (doc pm ctv : Value) : FuncData := PySem.W.kdv_fn "<lambda>" F.qual F.params (.expr F.body) F.scope F.cl F.dV doc pm (.ref F.c) ctv
abbrev LF.obj (F : LF) (doc pm ctv : Value) : Obj := { cls := .type "function", data := .func (F.fd doc pm ctv) }
def LamO (f : Addr) (F : LF) : HO := .ext fun h => ∃ doc pm ctv : Value, h.get? f = some (F.obj doc pm ctv)
/-- no default, or one that is told -/
def DvOk (dV : Value) (H : Hp) : Prop := dV = .none ∨ ∃ (t : Addr) (v : V), dV = .ref t ∧ H t = some (.tup [v])
/-- all that a lambda's function needs stands in H -/
structure Rdy (f : Addr) (F : LF) (H : Hp) : Prop where
  fn : H f = some (LamO f F)
  cd : H F.c = some (CodeO F.c F.qual)
  dv : DvOk F.dV H
theorem DvOk.same {dV : Value} {H H' : Hp} (d : DvOk dV H) (e : ExtN H H') : DvOk dV H' := by
  rcases d with d | ⟨t, v, d, h⟩
  · exact .inl d
  · exact .inr ⟨t, v, d, e _ _ h fun ps z => by cases z⟩
section
variable {X : Cx} {pins : List (Addr × Obj)} {σ : L2.St} {H : Hp} {s : Shared} {E : Value → Shared → Prop} {Q : Value → Shared → Prop}
/-- the function object is laid -/
theorem inv_lam {F : LF} {t' : Nat} {doc pm ctv : Value} (I : Inv X pins σ H s) :
    Inv X pins σ (upd H s.heap.objs.size (LamO s.heap.objs.size F)) { s with heap := s.heap.push (F.obj doc pm ctv), toks := t' } := by
  refine I.laid (fun b u z => Heap.get?_push_of_some _ z) (Nat.le_refl _) ?_
  have z : (s.heap.push (F.obj doc pm ctv)).get? s.heap.objs.size = some (F.obj doc pm ctv) := Heap.get?_push_size _ rfl
  refine ⟨⟨doc, pm, ctv, z⟩, ⟨_, z⟩, fun g1 g2 q st => ?_⟩
  obtain ⟨x1, x2, x3, q⟩ := q
  exact ⟨x1, x2, x3, st _ q⟩
/-- all but the table at P stays -/
def ExtP (P : Addr) (H H' : Hp) : Prop := ∀ b o, b ≠ P → H b = some o → H' b = some o
theorem ExtP.trans {P : Addr} {H H1 H2 : Hp} (a : ExtP P H H1) (b : ExtP P H1 H2) : ExtP P H H2 := fun c o n h => b c o n (a c o n h)
theorem extP_new {P : Addr} {H : Hp} {a : Addr} {o : HO} (n : H a = none) : ExtP P H (upd H a o) := fun b u _ z => by
  rw [upd_ne (ne_of_none z n)]
  exact z
theorem extN_new {H : Hp} {a : Addr} {o : HO} (n : H a = none) : ExtN H (upd H a o) := ExtN.of fun b u z => by
  rw [upd_ne (ne_of_none z n)]
  exact z
theorem none_new {H : Hp} {a b : Addr} {o : HO} (z : upd H a o b = none) : H b = none := by
  unfold upd at z
  split at z
  · cases z
  · exact z
/-- the function of a lambda whose default stands made -/
theorem lam_tail {T : List (Addr × Str)} {c P : Addr} {q : Str} {params : Arguments} {body : Expr} {scope : Scope} {pos : Pos} {l : Nat} {dV : Value} (I : Inv X pins σ H s) (TB : TabB X.base X.mg c P) (hcode : X.env.code = .ref c) (hm : (P, q) ∈ T) (hu : ∀ p ∈ T, p.1 = P → p.2 = q) (hT : Tabs T H)
    (hfree : ∀ y ∈ scope.names, y.2 = .free → ∃ c, X.env.cells.lookup y.1 = some c) (dk : DvOk dV H)
    (go : ∀ (f c' : Addr) (H1 : Hp) (s' : Shared), Inv X pins σ H1 s' → ExtN H H1 → ExtP P H H1 → (∀ b, H1 b = none → H b = none) → Tabs T H1 → H f = none → Rdy f ⟨q, params, body, scope, cloFrom X.env.cells scope.names [], c', dV⟩ H1 → Q (.ref f) s') :
    wpAny (model X.prog X.w) X.A (makeTail "<lambda>" q params (.expr body) scope X.env dV .none none pos l) Q E s := by
  obtain ⟨ps, hP, ht, ha⟩ := hT _ hm
  have bP := TB.bm.keeps I.bk
  have gP : s.heap.get? P = some (PySem.W.tabObj ps) := I.hok P _ hP
  cases hc : codeAmong pos ps.toList with
  | none =>
    refine PySem.W.kdv_makeTail (closure_ok hfree) I.ok.glob (I.mod.glob.keeps I.bk) hcode (TB.code.keeps I.bk) gP ht hc TB.gP bP fun c' ctv doc h' tk hx hge hlt hrec htb => ?_
    obtain ⟨c2, oc, vs, t, e2, hoc, hd, hv⟩ := hrec
    cases e2
    have nC : H c' = none := I.hok.fresh hge
    have I1 := inv_table (t' := tk) (more := #[rawInt pos.line, rawInt pos.col, .ref c']) (h' := h') I hP hx htb hge ⟨oc, vs, t, hoc, hd, hv⟩
    have sz : s.heap.objs.size ≤ h'.objs.size := Nat.le_trans hge (Nat.le_of_lt hlt)
    have x1 : ExtN H (upd (upd H P (.tbl (ps ++ #[rawInt pos.line, rawInt pos.col, .ref c']))) c' (CodeO c' q)) := fun b o z n => by
      rw [upd_ne (ne_of_none z nC), upd_ne (fun y => n ps (Option.some.inj (z.symm.trans (by rw [y]; exact hP))))]
      exact z
    have nF := I1.hok.fresh (Nat.le_refl _)
    have I2 := inv_lam (F := ⟨q, params, body, scope, cloFrom X.env.cells scope.names [], c', dV⟩) (t' := tk) (doc := doc) (pm := (X.mg "__name__").getD .none) (ctv := ctv) I1
    have x2 : ExtN H _ := x1.trans (extN_new (o := LamO h'.objs.size ⟨q, params, body, scope, cloFrom X.env.cells scope.names [], c', dV⟩) nF)
    have eL : (ps ++ #[rawInt pos.line, rawInt pos.col, .ref c']).toList = ps.toList ++ [rawInt pos.line, rawInt pos.col, .ref c'] := by simp
    have nc : c' ≠ h'.objs.size := Nat.ne_of_lt hlt
    refine go h'.objs.size c' _ _ I2 x2 (fun b o n z => by rw [upd_ne (ne_of_none z (I.hok.fresh sz)), upd_ne (ne_of_none z nC), upd_ne n]; exact z) (fun b z => ?_) (fun p hp => ?_) (I.hok.fresh sz) ⟨upd_same, by rw [upd_ne nc]; exact upd_same, dk.same x2⟩
    · exact none_new (none_new (none_new z))
    · have keepT : ∀ {cv : Value}, (∃ c, cv = .ref c ∧ H c = some (CodeO c p.2)) → ∃ c, cv = .ref c ∧ upd (upd (upd H P (.tbl (ps ++ #[rawInt pos.line, rawInt pos.col, .ref c']))) c' (CodeO c' q)) h'.objs.size (LamO h'.objs.size ⟨q, params, body, scope, cloFrom X.env.cells scope.names [], c', dV⟩) c = some (CodeO c p.2) := fun ⟨c0, e1, e2⟩ => ⟨c0, e1, x2 _ _ e2 codeO_ne⟩
      by_cases hb : p.1 = P
      · have nP : P ≠ h'.objs.size := Nat.ne_of_lt (Nat.lt_of_lt_of_le (Heap.lt_size gP) sz)
        refine ⟨_, by rw [hb, upd_ne nP, upd_ne (ne_of_none hP nC)]; exact upd_same, by rw [eL]; exact PySem.TriplesOk_snoc _ _ _ _ ht, fun p' cv z => ?_⟩
        rw [eL] at z
        rcases among_app _ ht z with z | z
        · refine keepT ?_
          rw [hu p hp hb]
          exact ha p' cv z
        · refine ⟨c', z, ?_⟩
          rw [upd_ne nc, upd_same, hu p hp hb]
      · obtain ⟨ps', a1, a2, a3⟩ := hT p hp
        have n1 : p.1 ≠ h'.objs.size := Nat.ne_of_lt (Nat.lt_of_lt_of_le (I.hok.lt a1) sz)
        exact ⟨ps', by rw [upd_ne n1, upd_ne (ne_of_none a1 nC), upd_ne hb]; exact a1, a2, fun p' cv z => keepT (a3 p' cv z)⟩
  | some cv =>
    obtain ⟨c', e, hco⟩ := ha pos cv hc
    subst e
    refine PySem.W.kdv_makeTailHit (closure_ok hfree) I.ok.glob (I.mod.glob.keeps I.bk) hcode (TB.code.keeps I.bk) gP ht hc bP fun ctv doc h' tk hx hsz => ?_
    have I1 : Inv X pins σ H { s with heap := h', toks := tk } := I.kept hx
    have nF : H h'.objs.size = none := I.hok.fresh hsz
    have I2 := inv_lam (F := ⟨q, params, body, scope, cloFrom X.env.cells scope.names [], c', dV⟩) (t' := tk) (doc := doc) (pm := (X.mg "__name__").getD .none) (ctv := ctv) I1
    have x2 : ExtN H _ := extN_new (o := LamO h'.objs.size ⟨q, params, body, scope, cloFrom X.env.cells scope.names [], c', dV⟩) nF
    exact go h'.objs.size c' _ _ I2 x2 (extP_new nF) (fun b z => none_new z) (hT.ext fun b u z => by rw [upd_ne (ne_of_none z nF)]; exact z) nF ⟨upd_same, x2 _ _ hco codeO_ne, dk.same x2⟩
/-- lambda: e, lambda x=n: e -/
def LamPar (p : Arguments) : Prop := p.kw_defaults = [] ∧ p.kwonlyargs = [] ∧ (p.defaults = [] ∨ ∃ (n : Int) (j : Nat) (po : Pos), p.defaults = [.Constant (.int n) j po])
theorem lam_eval {T : List (Addr × Str)} {c P : Addr} {params : Arguments} {body : Expr} {scope : Scope} {pos : Pos} (I : Inv X pins σ H s) (TB : TabB X.base X.mg c P) (hcode : X.env.code = .ref c) (hm : (P, X.env.qual ++ "<lambda>") ∈ T) (hu : ∀ p ∈ T, p.1 = P → p.2 = X.env.qual ++ "<lambda>") (hT : Tabs T H)
    (hp : LamPar params) (hfree : ∀ y ∈ scope.names, y.2 = .free → ∃ c, X.env.cells.lookup y.1 = some c)
    (go : ∀ (f c' : Addr) (dV : Value) (H1 : Hp) (s' : Shared), Inv X pins σ H1 s' → ExtN H H1 → ExtP P H H1 → (∀ b, H1 b = none → H b = none) → Tabs T H1 → H f = none → (params.defaults = [] → dV = .none) → (params.defaults ≠ [] → ∃ t v, dV = .ref t ∧ H t = none ∧ H1 t = some (.tup [v])) → Rdy f ⟨X.env.qual ++ "<lambda>", params, body, scope, cloFrom X.env.cells scope.names [], c', dV⟩ H1 → Q (.ref f) s') :
    wpAny (model X.prog X.w) X.A (eval (.Lambda params body scope pos) X.env) Q E s := by
  obtain ⟨k0, k1, hd⟩ := hp
  have fin : ∀ (dv : List Value) (s1 : Shared), wpAny (model X.prog X.w) X.A (makeFunction "<lambda>" (X.env.qual ++ "<lambda>") params (.expr body) scope X.env dv [] [] pos pos.line) Q E s1 → wpAny (model X.prog X.w) X.A (do let kdv ← holding dv (evalAllOpt []); makeFunction "<lambda>" (X.env.qual ++ "<lambda>") params (.expr body) scope X.env dv kdv [] pos pos.line) Q E s1 :=
    fun dv s1 z => wpAny_bind (wpAny_holding (wpAny_pure z))
  rcases hd with hd | ⟨n, j, po, hd⟩
  · rw [arm_eval_Lambda, defaultsOf_eq, k0, hd]
    refine wpAny_bind (evalAll_nil (fin [] s ?_))
    rw [makeFunction_eq]
    simp only [k1, List.zip_nil_right, List.filterMap_nil, List.isEmpty_nil, if_true, pure_bind]
    exact lam_tail I TB hcode hm hu hT hfree (.inl rfl) fun f c' H1 s' I1 x1 p1 n1 T1 nf r => go f c' .none H1 s' I1 x1 p1 n1 T1 nf (fun _ => rfl) (fun z => absurd hd z) r
  · rw [arm_eval_Lambda, defaultsOf_eq, k0, hd]
    refine wpAny_bind (evalAll_cons (thn ((pe_int (X := X) (i := n) (j := j) (pos := po)).run pins s σ H (fun v H1 => v = .int n ∧ H1 = H) I ⟨rfl, rfl⟩) fun u s1 ⟨v, H1, I1, r1, q1⟩ => evalAll_nil (fin [u] s1 ?_)))
    obtain ⟨ev, eH⟩ := q1
    subst ev
    rw [eH] at I1
    rw [makeFunction_eq]
    simp only [k1, List.zip_nil_right, List.filterMap_nil, List.isEmpty_nil, List.isEmpty_cons, Bool.false_eq_true, if_true, if_false, pure_bind]
    refine wpAny_bind (wpAny_newTextTuple ?_)
    have nt : H s1.heap.objs.size = none := I1.hok.fresh (Nat.le_refl _)
    have I2 : Inv X pins σ (upd H s1.heap.objs.size (.tup [V.int n])) { s1 with heap := s1.heap.push { cls := .type "tuple", data := .seq #[u] } } :=
      I1.laid (t' := s1.toks) (fun b o z => Heap.get?_push_of_some _ z) (Nat.le_refl _) ⟨(show 1 ≤ sizeLine by decide), [u], .cons r1 .nil, _, Heap.get?_push_size _ rfl, rfl, _, rfl⟩
    have x2 : ExtN H (upd H s1.heap.objs.size (.tup [V.int n])) := extN_new nt
    have T2 : Tabs T (upd H s1.heap.objs.size (.tup [V.int n])) := hT.ext fun b o z => by rw [upd_ne (ne_of_none z nt)]; exact z
    refine lam_tail I2 TB hcode hm hu T2 hfree (.inr ⟨_, _, rfl, upd_same⟩) fun f c' H1 s' I3 x3 p3 n3 T3 nf r => ?_
    refine go f c' _ H1 s' I3 (x2.trans x3) ((extP_new nt).trans p3) (fun b z => none_new (n3 b z)) T3 (none_new nf) (fun z => ?_) (fun _ => ⟨_, _, rfl, nt, x3 _ _ upd_same fun ps z => by cases z⟩) r
    rw [hd] at z
    cases z
end
end PfL

/-! a lambda called, from wherever: its cells lie frozen -/
namespace PfL
open PySem PySem.Spec PyProof.Rows L2 LamX HandSPX
def par0 : Arguments := { posonlyargs := [], args := [], vararg := none, kwonlyargs := [], kw_defaults := [], kwarg := none, defaults := [] }
def par1 (a : Str) (p po : Pos) (n : Int) (j : Nat) : Arguments := { posonlyargs := [], args := [{ arg := a, annotation := none, pos := p }], vararg := none, kwonlyargs := [], kw_defaults := [], kwarg := none, defaults := [.Constant (.int n) j po] }
theorem binds0 {s : Shared} {q : Str} {body : Expr} {scope : Scope} {cl : List (Str × Addr)} {c : Addr} {doc pm ctv : Value} : BindsTo s ((⟨q, par0, body, scope, cl, c, .none⟩ : LF).fd doc pm ctv) ⟨[], []⟩ [] := BindsTo.of_eq rfl
theorem binds1 {s : Shared} {a q : Str} {p po : Pos} {n : Int} {j : Nat} {body : Expr} {scope : Scope} {cl : List (Str × Addr)} {c t : Addr} {doc pm ctv u : Value} {o : Obj} {m : Nat} (ho : s.heap.get? t = some o) (hs : o.data = .seq #[u] m) :
    BindsTo s ((⟨q, par1 a p po n j, body, scope, cl, c, .ref t⟩ : LF).fd doc pm ctv) ⟨[], []⟩ [(a, u)] :=
  BindsTo.of_defaults rfl ho hs rfl (by simp [par1, pure]; show Sem.pure (List.filterMap (fun n => Option.map (fun x => (n, x)) (List.lookup n [(a, u)])) [a]) = _; simp [List.lookup])
/-- a lambda's words: what they are made of -/
inductive Par : Arguments → List Str → Prop
  | zero : Par par0 []
  | one (a : Str) (p po : Pos) (n : Int) (j : Nat) : Par (par1 a p po n j) [a]
theorem Par.lam {p : Arguments} {as : List Str} (h : Par p as) : LamPar p := by
  cases h with
  | zero => exact ⟨rfl, rfl, .inl rfl⟩
  | one a p po n j => exact ⟨rfl, rfl, .inr ⟨n, j, po, rfl⟩⟩
/-- its names: its own parameter, captured ones, globals -/
structure LSc (N : List Str) (as : List Str) (sc : Scope) : Prop where
  kind : sc.kind = .function
  co : sc.isCoroutine = false
  gen : sc.isGenerator = false
  cell : ∀ y ∈ sc.names, y.2 ≠ .cell
  own : ∀ y ∈ sc.names, y.2 = .local → y.1 ∉ N
  par : ∀ a ∈ as, sc.names.lookup a = some .local
def lscB (N as : List Str) (sc : Scope) : Bool :=
  decide (sc.kind = .function) && !sc.isCoroutine && !sc.isGenerator && sc.names.all (fun y => !decide (y.2 = .cell) && (!decide (y.2 = .local) || !decide (y.1 ∈ N))) && as.all fun a => decide (sc.names.lookup a = some .local)
theorem lsc_by {N as : List Str} {sc : Scope} (h : lscB N as sc = true) : LSc N as sc := by
  unfold lscB at h
  simp only [Bool.and_eq_true, Bool.or_eq_true, Bool.not_eq_true', decide_eq_true_eq, decide_eq_false_iff_not, List.all_eq_true] at h
  obtain ⟨⟨⟨⟨h1, h2⟩, h3⟩, h4⟩, h5⟩ := h
  exact ⟨h1, h2, h3, fun y hy => (h4 y hy).1, fun y hy e => (h4 y hy).2.elim (fun z => absurd e z) id, h5⟩
/-- the frozen cells bear what the maker's names bear -/
structure CFz (N : List Str) (σ : L2.St) (cl : List (Str × Addr)) (Z : Zm) : Prop where
  at_ : ∀ y c, cl.lookup y = some c → ∃ (o : Obj) (u : Option Value), Z c = some o ∧ o.data = .cell u ∧ ∀ (i : Nat) (v : V), N[i]? = some y → σ[i]? = some (some v) → ∃ u', u = some u' ∧ RelV v u'
  inj : ∀ x y c, cl.lookup x = some c → cl.lookup y = some c → x = y
abbrev lamE (F : LF) (L f : Addr) : Env := PySem.W.envX F.qual F.scope L f (.ref F.c) F.cl
def lamX (P : Program) (w : World) (K : PySem.W.Frag) (mg : Str → Option Value) (base : Heap) (N : List Str) (A : Around) (outer : List Env) (s : Shared) (H : Hp) (E : XK) (F : LF) (f : Addr) : Cx where
  prog := P
  w := w
  K := K
  mg := mg
  base := base
  A := A.deeper (lamE F s.heap.objs.size f)
  N := N
  s_0 := s
  H_0 := H
  env := lamE F s.heap.objs.size f
  outer := outer
  stack := lamE F s.heap.objs.size f :: outer
  ex := []
  fn := fun _ => false
  calm := true
  pn := []
  xe := fun e s' => wpAny (model P w) (A.deeper (lamE F s.heap.objs.size f)) (leaving (lamE F s.heap.objs.size f) e) (fun _ s'' => L2.CX P w outer H s E e s'') (fun e' s'' => L2.CX P w outer H s E e' s'') s'
section
variable {P : Program} {w : World} {K : PySem.W.Frag} {mg : Str → Option Value} {base : Heap} {N as : List Str} {A : Around} {outer : List Env} {s : Shared} {H : Hp} {E : XK} {F : LF} {f : Addr} {σ : L2.St} {Z : Zm} {k : Nat} {Q : VK}
theorem lam_start {h₁ : Heap} {tk : Nat} {bs : List (Str × Value)} (L : LSc N as F.scope) (e0 : Env0 P w K mg base A outer s H) (hd : A.handled = none) (zo : Out Z H s.heap) (C : CFz N σ F.cl Z) (hc : ∀ y, F.scope.names.lookup y = some .free → ∃ c, F.cl.lookup y = some c)
    (hl : σ.length = N.length) (hns : h₁.Ns s.heap.objs.size fun y => bs.reverse.lookup y) (kp : ∀ b o, s.heap.get? b = some o → h₁.get? b = some o) :
    Inv (lamX P w K mg base N A outer s H E F f) [] σ H { s with heap := h₁, toks := tk } := by
  have noA : ∀ b : Addr, b ∉ (lamX P w K mg base N A outer s H E F f).ex := fun b z => absurd (show b ∈ ([] : List Addr) from z) (by simp)
  have cellAt : ∀ {y c}, F.cl.lookup y = some c → ∃ (o : Obj) (u : Option Value), H c = none ∧ h₁.get? c = some o ∧ o.data = .cell u ∧ ∀ (i : Nat) (v : V), N[i]? = some y → σ[i]? = some (some v) → ∃ u', u = some u' ∧ RelV v u' := fun {y c} e => by
    obtain ⟨o, u, z, d, r⟩ := C.at_ y c e
    exact ⟨o, u, (zo c o z).1, kp c o (zo c o z).2, d, r⟩
  refine ⟨⟨e0.mod, L.kind, rfl, rfl, Nat.le_refl _, C.inj, fun y hy => ?_, fun y c z _ => ?_, fun _ => hd, Around.frames_deeper e0.frames, .inr ⟨rfl, rfl⟩, fun b z => absurd z (noA b), e0.bs, e0.bsz, fun b _ _ => noA b, fun b z => absurd z (noA b), e0.funs, e0.frf⟩,
    rfl, e0.bare, Un.kept kp, ⟨_, hns, fun i y v e1 e2 e3 => ?_⟩, fun y c e => ?_, e0.hok.fresh (Nat.le_refl _), fun y c e => ?_, fun q hq => absurd (show q ∈ ([] : List (Addr × Obj)) ++ [] from hq) (by simp), e0.hok.kept kp, hl⟩
  · have hy : F.scope.names.lookup y = some .cell ∨ F.scope.names.lookup y = some .free := hy
    rcases hy with hy | hy
    · exact absurd rfl (L.cell _ (PySem.mem_of_lookup hy))
    · exact hc y hy
  · have z : false = true := z
    cases z
  · have e3 : Vis F.scope y := e3
    have hm : y ∈ N := List.mem_of_getElem? e1
    rcases e3 with g | g | g
    · exact absurd hm (L.own _ (PySem.mem_of_lookup g) rfl)
    · exact absurd rfl (L.cell _ (PySem.mem_of_lookup g))
    · obtain ⟨c, hcl⟩ := hc y g
      obtain ⟨o, u, _, ho, d, r⟩ := cellAt hcl
      obtain ⟨u', rfl, rv⟩ := r i v e1 e2
      exact ⟨u', rv, .inr ⟨.inr g, c, hcl, o, ho, d⟩⟩
  · obtain ⟨o, u, _, ho, d, _⟩ := cellAt (show F.cl.lookup y = some c from e)
    exact ⟨u, o, ho, d⟩
  · exact (cellAt (show F.cl.lookup y = some c from e)).choose_spec.choose_spec.1
/-- x(): what the function at f comes to, whoever calls it -/
def tAct (P : Program) (w : World) (K : PySem.W.Frag) (mg : Str → Option Value) (base : Heap) (k : Nat) (f : Addr) (H : Hp) (Q : VK) (E : XK) : Prop :=
  ∀ (A : Around) (outer : List Env) (s : Shared), Room k A → Env0 P w K mg base A outer s H → codeAny (model P w) A (.call (.ref f) ⟨[], []⟩) (CR (L2.CX P w) outer P w H s Q E) s
theorem act_lam {tb : XK → TE} (pr : Par F.params as) (pd : F.params = par0 → F.dV = .none) (pd1 : F.params ≠ par0 → ∃ t v, F.dV = .ref t ∧ H t = some (.tup [v])) (r : Rdy f F H) (zi : In Z H) (L : LSc N as F.scope) (C : CFz N σ F.cl Z) (hc : ∀ y, F.scope.names.lookup y = some .free → ∃ c, F.cl.lookup y = some c) (hl : σ.length = N.length)
    (hbody : ∀ (A : Around) (outer : List Env) (s : Shared) (E' : XK), Room k (A.deeper (lamE F s.heap.objs.size f)) → PE (lamX P w K mg base N A outer s (uz Z H) E' F f) F.body (tb E'))
    (h : tb (fun cls d H' => (∀ b o, Z b = some o → H' b = none) → E cls d (fz Z H')) σ (uz Z H) (fun v H' => (∀ b o, Z b = some o → H' b = none) → Q v (fz Z H'))) :
    tAct P w K mg base (k + 1) f H Q E := fun A outer s hr e0 => by
  obtain ⟨⟨doc, pm, ctv, ho⟩, _, _⟩ := e0.hok f _ r.fn
  obtain ⟨⟨oc, vs, t, hoc, hdc, hvc⟩, _, _⟩ := e0.hok F.c _ r.cd
  have e1 : Env0 P w K mg base A outer s (uz Z H) := env0_uz e0 zi
  have zo : Out Z (uz Z H) s.heap := out_uz e0.hok zi
  have hb : ∃ bs, BindsTo s (F.fd doc pm ctv) ⟨[], []⟩ bs ∧ ∀ y ∈ bs, F.scope.names.lookup y.1 = some .local := by
    obtain ⟨q, params, body, scope, cl, c, dV⟩ := F
    cases pr with
    | zero =>
      obtain rfl : dV = .none := pd rfl
      exact ⟨[], binds0, fun y hy => by cases hy⟩
    | one a p po n j =>
      obtain ⟨t, v, e, ht⟩ := pd1 fun z => by cases z
      have e : dV = .ref t := e
      subst e
      obtain ⟨_, its, rv, o, g1, g2, g3, g4⟩ := e0.hok t _ ht
      obtain ⟨u, hu, _⟩ := rv.one
      subst hu
      exact ⟨[(a, u)], binds1 g1 g4, fun y hy => by
        rw [List.mem_singleton.mp hy]
        exact L.par a (by simp)⟩
  obtain ⟨bs, hbind, hloc⟩ := hb
  have run : codeAny (model P w) A (.call (.ref f) ⟨[], []⟩) (CR (L2.CX P w) outer P w (uz Z H) s (fun v H' => (∀ b o, Z b = some o → H' b = none) → Q v (fz Z H')) (fun cls d H' => (∀ b o, Z b = some o → H' b = none) → E cls d (fz Z H'))) s := by
    refine PySem.W.kla_callFunE hr.depth ho rfl L.co L.gen rfl ⟨F.c, oc, vs, t, rfl, hoc, hdc, hvc⟩ (hbind _ _ _ _ ?_)
    refine wpAny_newFunctionEnv (fun y hy => L.cell y hy) (fun y hy => hloc y hy) (fun h₁ hns hsb => ⟨(e0.mod.nolimit.keeps fun b o q => (e0.bs b o q).1).fresh _ hsb, ?_⟩) L.kind
    show codeAny _ _ (.expr F.body (lamE F s.heap.objs.size f)) _ _
    have kp : ∀ b o, s.heap.get? b = some o → h₁.get? b = some o := fun b o q => hsb.extBut b o (Nat.ne_of_lt (Heap.lt_size q)) (Heap.get?_push_of_some _ q)
    have J : Inv (lamX P w K mg base N A outer s (uz Z H) (fun cls d H' => (∀ b o, Z b = some o → H' b = none) → E cls d (fz Z H')) F f) [] σ (uz Z H) { s with heap := h₁, toks := s.toks + bs.length } := lam_start L e1 hr.hd zo C hc hl hns kp
    refine PySem.W.kla_codeExpr (wpAny_mono ((hbody A outer s _ (hr.deeper _)).run [] _ _ (uz Z H) _ J h) (fun v s' hq => ?_) fun _ _ hq => hq)
    obtain ⟨w', H', J', rv, q⟩ := hq
    exact ⟨w', H', J'.os, J'.bare, J'.base, J'.hok, rv, q⟩
  refine codeAny_mono run fun r s' hq => ?_
  cases r with
  | error e => exact cx_freeze e0 zi hq
  | ok fl =>
    cases fl with
    | ret u => exact ce_freeze e0 zi hq
    | next => exact hq
    | brk => exact hq
    | cont => exact hq
end
end PfL

namespace Pf
open PySem L2 RZ
/-! ### xs.extend(ys) of an own list -/
/-! ### x not in a tuple of ints; enumerate of a tuple -/
end Pf

/-! rules of lambdas: made, asked, handed on while the cells lie frozen -/
namespace PfL
open PySem PySem.Spec PyProof.Rows L2 LamX HandSPX
/-- what the making of a lambda comes to -/
structure MkL (P : Addr) (q : Str) (params : Arguments) (body : Expr) (scope : Scope) (cells : List (Str × Addr)) (H : Hp) (f : Addr) (F : LF) (H1 : Hp) : Prop where
  ext : ExtP P H H1
  tab : TabS H1 P q
  non : ∀ b, H1 b = none → H b = none
  new : H f = none
  rdy : Rdy f F H1
  eq : F = ⟨q, params, body, scope, cloFrom cells scope.names [], F.c, F.dV⟩
  d0 : params.defaults = [] → F.dV = .none
  d1 : params.defaults ≠ [] → ∃ t v, F.dV = .ref t ∧ H t = none ∧ H1 t = some (.tup [v])
def tMkL (P : Addr) (q : Str) (params : Arguments) (body : Expr) (scope : Scope) (cells : List (Str × Addr)) : TE := fun σ H Q => TabS H P q ∧ ∀ f F H1, MkL P q params body scope cells H f F H1 → Q (.ref f) H1
section
variable {X : Cx}
theorem pe_lam {c P : Addr} {params : Arguments} {body : Expr} {scope : Scope} {pos : Pos} (TB : TabB X.base X.mg c P) (hcode : X.env.code = .ref c) (hp : LamPar params) (hfree : X.Ok → ∀ y ∈ scope.names, y.2 = .free → ∃ c, X.env.cells.lookup y.1 = some c) :
    PE X (.Lambda params body scope pos) (tMkL P (X.env.qual ++ "<lambda>") params body scope X.env.cells) := by
  refine ⟨fun pins s σ H Q I h => ?_⟩
  obtain ⟨ht, go⟩ := h
  refine lam_eval (T := [(P, X.env.qual ++ "<lambda>")]) I TB hcode (by simp) (fun p hp _ => by rw [List.mem_singleton.mp hp]) (fun p hp => by rw [List.mem_singleton.mp hp]; exact ht) hp (hfree I.ok) fun f c' dV H1 s' I1 x1 p1 n1 T1 nf e0 e1 r => ?_
  exact ⟨.ref f, H1, I1, rfl, go f _ H1 ⟨p1, T1 (P, _) (by simp), n1, nf, r, rfl, e0, e1⟩⟩
/-- x() -/
def tAsk (P : Program) (w : World) (K : PySem.W.Frag) (mg : Str → Option Value) (base : Heap) (k i : Nat) (E : XK) : TE := fun σ H Q => ∃ f F, σ[i]? = some (some (.ref f)) ∧ Rdy f F H ∧ tAct P w K mg base k f H Q E
theorem pe_ask {k i : Nat} {a : Str} {E : XK} {W : WX} {p1 p2 : Pos} (tk : Takes X W) (hW : ∀ cls d (σ : L2.St) H', σ.length = X.N.length → E cls d H' → W cls d σ H') (hr : Room k X.A) (hN : X.N[i]? = some a) (hv : Vis X.env.scope a) (hd : (a == ("__debug__" : Str)) = false := by decide) (hcd : (a == ("__classdict__" : Str)) = false := by decide) :
    PE X (.Call (.Name a p1) [] [] p2) (tAsk X.prog X.w X.K X.mg X.base k i E) := by
  refine ⟨fun pins s σ H Q I h => ?_⟩
  obtain ⟨f, F, hs, hr', ht⟩ := h
  refine wpAny_Call_Name_kw (thn ((pe_var (pos := p1) (i := i) hN hv hd hcd).run pins s σ H (fun v H1 => v = .ref f ∧ H1 = H) I ⟨.ref f, hs, rfl, rfl⟩) fun u s1 ⟨v, H1, I1, r1, q1⟩ => ?_)
  obtain ⟨ev, eH⟩ := q1
  subst ev
  rw [eH] at I1
  obtain rfl : u = Value.ref f := r1
  obtain ⟨⟨doc, pm, ctv, ho⟩, _, _⟩ := I1.hok f _ hr'.fn
  refine PySem.W.callWith_F0 ⟨_, _, _, _, ho⟩ (wpAny_call (codeAny_mono (ht X.A X.stack s1 hr I1.env0) fun r s' hq => ?_))
  cases r with
  | error e => exact tk e s' (XE.of_call I1 (fun cls d H' z => hW cls d σ H' I1.len z) hq)
  | ok fl =>
    cases fl with
    | ret u => exact I1.after hq
    | next => exact hq.elim
    | brk => exact hq.elim
    | cont => exact hq.elim
/-! ### a call while this frame's cells lie frozen -/
def tFz (N : List Str) (cells : List (Str × Addr)) (sp : Sp) (te : TE) : TE := fun σ H Q => te σ H fun v H1 => ∀ Z : Zm, CFz N σ cells Z → (∀ b o, Z b = some o → H1 b = none) → sp [v] (fz Z H1) (fun u H' => In Z H' → Q u (uz Z H')) (fun _ _ _ => False)
theorem cells_kind : ∀ (names : List (Str × NameKind)) (n : Nat) (acc : List (Str × Addr)) {x : Str} {c : Addr}, (x, c) ∈ cellsFrom n names acc → (x, c) ∈ acc ∨ ((x, NameKind.cell) ∈ names ∧ n ≤ c)
  | [], _, _, _, _, h => .inl h
  | (y, k) :: r, n, acc, x, c, h => by
    unfold cellsFrom at h
    split at h
    · rename_i hk
      have hk : k = .cell := by simpa using hk
      rcases cells_kind r (n + 1) _ h with h | ⟨h1, h2⟩
      · rcases List.mem_cons.mp h with e | h
        · cases e
          exact .inr ⟨hk ▸ List.mem_cons_self, Nat.le_refl _⟩
        · exact .inl h
      · exact .inr ⟨List.mem_cons_of_mem _ h1, Nat.le_of_succ_le h2⟩
    · rcases cells_kind r n acc h with h | ⟨h1, h2⟩
      · exact .inl h
      · exact .inr ⟨List.mem_cons_of_mem _ h1, h2⟩
open Classical in
theorem pe_fzcall {k : Nat} {f : Addr} {fd : FuncData} {a x : Str} {sp : Sp} {e : Expr} {te : TE} {p pos : Pos} (Fn : FnOk X.prog X.w X.K X.mg X.base CX0 k f fd [a] sp) (hr : Room k X.A) (hg : Gl X x) (hm : X.mg x = some (.ref f)) (hk : PySem.W.keepIn X.K (.ref f) = true) (hb : Binds X.K fd [a] [])
    (own : ∀ y c, X.env.cells.lookup y = some c → X.fn y = true) (knd : ∀ y c, X.env.cells.lookup y = some c → X.env.scope.names.lookup y = some .cell) (hst : X.stack = X.env :: X.outer) (hfr : X.env.frame = some X.env.locals) (he : PE X e te) (hdb : (x == ("__debug__" : Str)) = false := by decide)
    (hse : starEach [e] X.env = (false, eval e X.env) :: starEach [] X.env := by rfl) (hpl : (backTo pos (starEach ([] : List Expr) X.env)).any (·.1) = false := by rfl) :
    PE X (.Call (.Name x p) [e] [] pos) (tFz X.N X.env.cells sp te) := by
  refine ⟨fun pins s σ H Q I h => wpAny_Call_Name_kw (ld_glob I hg hm ?_ hdb)⟩
  refine PySem.W.callWith_K (h₀ := X.base) I.ok.mod.kin hk (thn ((pa_cons he pa_nil hse).run pos pins s σ H (fun vs H1 => ∀ Z : Zm, CFz X.N σ X.env.cells Z → (∀ b o, Z b = some o → H1 b = none) → sp vs (fz Z H1) (fun u H' => In Z H' → Q u (uz Z H')) (fun _ _ _ => False)) I h) fun us s1 ⟨vs, H1, I1, r, z⟩ => ⟨I1.kIn, ?_⟩) hse hpl
  let Z : Zm := fun b => if ∃ y, X.env.cells.lookup y = some b then s1.heap.get? b else none
  have Zin : ∀ {y b}, X.env.cells.lookup y = some b → Z b = s1.heap.get? b := fun {y b} q => if_pos ⟨y, q⟩
  have Zof : ∀ {b o}, Z b = some o → ∃ y, X.env.cells.lookup y = some b := fun {b o} q => by
    by_cases hy : ∃ y, X.env.cells.lookup y = some b
    · exact hy
    · rw [show Z b = none from if_neg hy] at q
      cases q
  have zo : Out Z H1 s1.heap := fun b o q => by
    obtain ⟨y, hy⟩ := Zof q
    exact ⟨I1.freeC y b hy, by rw [← Zin hy]; exact q⟩
  have old : ∀ {b}, (∃ o, X.s_0.heap.get? b = some o) → Z b = none := fun {b} ⟨o, q⟩ => by
    cases hz : Z b with
    | none => rfl
    | some o' =>
      obtain ⟨y, hy⟩ := Zof hz
      exact absurd (Nat.lt_of_lt_of_le (Heap.lt_size q) (I1.ok.cab y b (own y b hy) hy)) (Nat.lt_irrefl _)
  have cz : CFz X.N σ X.env.cells Z := by
    refine ⟨fun y b hy => ?_, I1.ok.inj⟩
    obtain ⟨u, o, ho, hd⟩ := I1.cell y b hy
    refine ⟨o, u, by rw [Zin hy]; exact ho, hd, fun i v h1 h2 => ?_⟩
    obtain ⟨m, hn, hl⟩ := I1.loc
    obtain ⟨u', rv, lk⟩ := hl i y v h1 h2 (.inr (.inl (knd y b hy)))
    rcases lk with ⟨w1, _⟩ | ⟨_, b', hb', o', ho', hd'⟩
    · have w1 : X.env.scope.names.lookup y = some .local := w1
      rw [knd y b hy] at w1
      cases w1
    · rw [hy] at hb'
      cases hb'
      rw [ho] at ho'
      cases ho'
      rw [hd] at hd'
      cases hd'
      exact ⟨u', rfl, rv⟩
  have nf : ∀ b ∈ frs X.stack, Z b = none := fun b hbm => by
    rw [hst] at hbm
    obtain ⟨en, hen, hf⟩ := List.mem_filterMap.mp hbm
    rcases List.mem_cons.mp hen with rfl | hen
    · rw [hfr] at hf
      cases hf
      cases hz : Z X.env.locals with
      | none => rfl
      | some o' =>
        obtain ⟨y, hy⟩ := Zof hz
        obtain ⟨u, o, ho, hd⟩ := I1.cell y _ hy
        obtain ⟨m, ⟨o2, es, ep, ho2, hd2, _⟩, _⟩ := I1.loc
        rw [ho] at ho2
        cases ho2
        rw [hd] at hd2
        cases hd2
    · obtain ⟨_, o, ho, _⟩ := I1.ok.funs.mem (List.mem_filterMap.mpr ⟨en, hen, hf⟩)
      exact old ⟨o, ho⟩
  have e0 : Env0 X.prog X.w X.K X.mg X.base X.A X.stack s1 (fz Z H1) := env0_fz I1.env0 zo (fun b o q => old ⟨o, (I1.ok.bs b o q).1⟩) nf
  have q := z Z cz fun b o y => (zo b o y).1
  have hl : us.length = [a].length := by rw [← r.length]; exact Fn.len _ _ _ _ q
  have b := hb s1 us I1.kIn (by rw [List.append_nil]; exact hl)
  rw [List.append_nil] at b
  refine wpAny_call (codeAny_mono (Fn.run X.A X.stack s1 (fz Z H1) ⟨us, []⟩ us vs _ _ hr e0 b r q) fun r s' hq => ?_)
  cases r with
  | error e => exact (show False from hq).elim
  | ok fl =>
    cases fl with
    | ret u => exact I1.after (ce_thaw zo hq)
    | next => exact hq.elim
    | brk => exact hq.elim
    | cont => exact hq.elim
end
end PfL

/-! lambdas on data: what a lambda comes to, told of the captured data -/
namespace Pf
open PySem L2 PfL LamX
/-- all but frozen cells is kept -/
def SameW (H H' : Hp) : Prop := ∀ a o, H a = some o → (∀ o' φ, o ≠ .frz o' (.ext φ)) → H' a = some o
section
variable {K : PySem.W.Frag} {H H' : Hp}
theorem sameW_tup {a : Addr} {xs : List V} (e : SameW H H') (h : SqT K H a xs) : SqT K H' a xs := by
  rcases h with (h | ⟨o, h⟩) | h
  · exact .inl (.inl (e _ _ h fun _ _ z => by cases z))
  · exact .inl (.inr ⟨o, e _ _ h fun _ _ z => by cases z⟩)
  · exact .inr h
mutual
theorem Rep.monoW (e : SameW H H') : ∀ {v : V} {d : D}, Rep K H v d → Rep K H' v d
  | _, _, .non => .non
  | _, _, .bl b => .bl b
  | _, _, .int i => .int i
  | _, _, .str x => .str x
  | _, _, .lst h r => .lst (e _ _ h fun _ _ z => by cases z) (RepL.monoW e r)
  | _, _, .tup h r => .tup (sameW_tup e h) (RepL.monoW e r)
  | _, _, .dic h r => .dic (e _ _ h fun _ _ z => by cases z) (RepK.monoW e r)
  | _, _, .ins h r => .ins (e _ _ h fun _ _ z => by cases z) (RepF.monoW e r)
  | _, _, .ty n => .ty n
  | _, _, .adr a => .adr a
  | _, _, .exc h g r => .exc (e _ _ h fun _ _ z => by unfold exo at z; cases z) (e _ _ g fun _ _ z => by unfold exd at z; cases z) (RepF.monoW e r)
  | _, _, .fn h r => .fn (fun p hp => ⟨e _ _ (h p hp).1 fun o φ => (h p hp).2 o _, (h p hp).2⟩) (RepL.monoW e r)
  | _, _, .dicN h r => .dicN (e _ _ h fun _ _ z => by unfold HDn at z; cases z) (RepN.monoW e r)
theorem RepL.monoW (e : SameW H H') : ∀ {v : List V} {d : List D}, RepL K H v d → RepL K H' v d
  | _, _, .nil => .nil
  | _, _, .cons h r => .cons (Rep.monoW e h) (RepL.monoW e r)
theorem RepK.monoW (e : SameW H H') : ∀ {v : List (Key × V)} {d : List (Key × D)}, RepK K H v d → RepK K H' v d
  | _, _, .nil => .nil
  | _, _, .cons h r => .cons (Rep.monoW e h) (RepK.monoW e r)
theorem RepF.monoW (e : SameW H H') : ∀ {v : List (Str × V)} {d : List (Str × D)}, RepF K H v d → RepF K H' v d
  | _, _, .nil => .nil
  | _, _, .cons h r => .cons (Rep.monoW e h) (RepF.monoW e r)
theorem RepN.monoW (e : SameW H H') : ∀ {v : List (NE V)} {d : List (NestedKey × D)}, RepN K H v d → RepN K H' v d
  | _, _, .nil => .nil
  | _, _, .cons z k h r => .cons z (Rep.monoW e k) (Rep.monoW e h) (RepN.monoW e r)
end
end
theorem sameW_uz {Z : Zm} {H : Hp} {M : Addr → Bool} (z : In Z H) : SameW (hd M H) (hd M (uz Z H)) := fun a o h n => by
  obtain ⟨m, h⟩ := hd_of h
  refine hd_at m ?_
  cases q : Z a with
  | none => rw [uz_out q]; exact h
  | some o' =>
    rw [z a o' q] at h
    exact absurd (Option.some.inj h).symm (n o' _)
theorem same_fz {Z : Zm} {H : Hp} {M : Addr → Bool} (z : ∀ b o, Z b = some o → H b = none) : Same (hd M H) (hd M (fz Z H)) := fun a o h => by
  obtain ⟨m, h⟩ := hd_of h
  refine hd_at m ?_
  cases q : Z a with
  | none => rw [fz_out q]; exact h
  | some o' => rw [z a o' q] at h; cases h
theorem same_fz0 {Z : Zm} {H : Hp} (z : ∀ b o, Z b = some o → H b = none) : Same H (fz Z H) := fun a o h => by
  cases q : Z a with
  | none => rw [fz_out q]; exact h
  | some o' => rw [z a o' q] at h; cases h
theorem same_uzfz {Z : Zm} {H H' : Hp} (z : In Z H) (s : Same (uz Z H) H') : Same H (fz Z H') := fun a o h => by
  cases q : Z a with
  | none =>
    rw [fz_out q]
    exact s a o (by rw [uz_out q]; exact h)
  | some o' =>
    rw [z a o' q] at h
    rw [fz_in q]
    exact h
/-! ### the captured slots -/
def keepD (js : List Nat) (i : Nat) : SD → SD
  | .dat d => if i ∈ js then .dat d else .un
  | _ => .un
def keepS (js : List Nat) (δ : List SD) : List SD := δ.mapIdx (keepD js)
def capV (js : List Nat) (σ : L2.St) : List V := js.map fun j => (σ.getD j none).getD .non
def capD (js : List Nat) (δ : List SD) : List D := js.map fun j => match δ.getD j .un with
  | .dat d => d | _ => .non
theorem keepS_get {js : List Nat} {δ : List SD} {i : Nat} {x : SD} (h : (keepS js δ)[i]? = some x) : x = .un ∨ ∃ d, x = .dat d ∧ i ∈ js ∧ δ[i]? = some (.dat d) := by
  unfold keepS at h
  rw [List.getElem?_mapIdx] at h
  cases e : δ[i]? with
  | none => rw [e] at h; cases h
  | some y =>
    rw [e] at h
    obtain rfl := Option.some.inj (show some (keepD js i y) = some x from h)
    cases y with
    | dat d =>
      unfold keepD
      by_cases hi : i ∈ js
      · exact .inr ⟨d, if_pos hi, hi, rfl⟩
      · exact .inl (if_neg hi)
    | _ => exact .inl rfl
theorem cap_rep {F : Fm} {M : Addr → Bool} {σ : L2.St} {H : Hp} {δ : List SD} (c : Ctx F M σ H δ) : ∀ {js : List Nat}, (∀ j ∈ js, ∃ d, δ[j]? = some (.dat d)) → RepL F.K (hd M H) (capV js σ) (capD js δ)
  | [], _ => .nil
  | j :: js, h => by
    obtain ⟨d, hd'⟩ := h j (by simp)
    obtain ⟨v, h1, r⟩ := c.get hd'
    have e1 : (σ.getD j none).getD V.non = v := by simp [List.getD, h1]
    have e2 : (match δ.getD j .un with | .dat d => d | _ => D.non) = d := by simp [List.getD, hd']
    unfold capV capD
    rw [List.map_cons, List.map_cons, e1, e2]
    exact .cons r (cap_rep c fun k hk => h k (List.mem_cons_of_mem _ hk))
theorem cap_get {K : PySem.W.Frag} {H : Hp} {σ : L2.St} {δ : List SD} : ∀ {js : List Nat}, RepL K H (capV js σ) (capD js δ) → ∀ j ∈ js, ∀ d v, δ[j]? = some (.dat d) → σ[j]? = some (some v) → Rep K H v d
  | [], _, j, hj, _, _, _, _ => by cases hj
  | k :: js, r, j, hj, d, v, h1, h2 => by
    unfold capV capD at r
    rw [List.map_cons, List.map_cons] at r
    cases r with
    | cons r rs =>
      rcases List.mem_cons.mp hj with rfl | hj
      · have e1 : (σ.getD j none).getD V.non = v := by simp [List.getD, h2]
        have e2 : (match δ.getD j .un with | .dat d => d | _ => D.non) = d := by simp [List.getD, h1]
        rw [e1, e2] at r
        exact r
      · exact cap_get rs j hj d v h1 h2
/-- what the function at f comes to, told of what it captured -/
def ActD (P : Program) (w : World) (K : PySem.W.Frag) (mg : Str → Option Value) (base : Heap) (k : Nat) (f : Addr) (ws : List V) (cs : List D) (H : Hp) (Pn : D → Prop) (PX : Addr → List (Str × D) → Prop) : Prop :=
  ∀ (M' : Addr → Bool) (H' : Hp) (Q : VK) (E : XK), Same H H' → Al M' H' → RepL K (hd M' H') ws cs → (∀ v d H'', Pn d → Same H' H'' → Rep K (hd M' H'') v d → Q v H'') →
    (∀ C gs dx fvs H'', PX C gs → Same H' H'' → H' dx = none → H'' dx = some (.xd fvs) → RepF K (hd M' H'') fvs gs → E (.ref C) (some dx) H'') → (∃ F, Rdy f F H') ∧ tAct P w K mg base k f H' Q E
/-- what is kept of a lambda -/
def LamIs (f : Addr) (F : LF) (hs : List (Addr × HO)) : Prop := (F.params = par0 → F.dV = .none) ∧ ∀ H : Hp, (∀ p ∈ hs, H p.1 = some p.2) → Rdy f F H ∧ (F.params ≠ par0 → ∃ t v, F.dV = .ref t ∧ H t = some (.tup [v]))
section
variable {P : Program} {w : World} {K : PySem.W.Frag} {mg : Str → Option Value} {base : Heap} {k : Nat} {N as : List Str} {Fm' : Fm} {M : Addr → Bool} {σ : L2.St} {H : Hp} {δ : List SD} {f : Addr} {F : LF} {hs : List (Addr × HO)} {Z : Zm} {Pn : D → Prop} {PX : Addr → List (Str × D) → Prop} {js : List Nat} {tb : XK → TE}
theorem act_data (c : Ctx Fm' M σ H δ) (hK : Fm'.K = K) (zn : ∀ b o, Z b = some o → H b = none) (hN : δ.length = N.length) (li : LamIs f F hs) (hh : ∀ p ∈ hs, H p.1 = some p.2) (pr : Par F.params as) (L : LSc N as F.scope) (C : CFz N σ F.cl Z) (hc : ∀ y, F.scope.names.lookup y = some .free → ∃ c, F.cl.lookup y = some c)
    (hbody : ∀ (A : Around) (outer : List Env) (s : Shared) (H0 : Hp) (E' : XK), Room k (A.deeper (lamE F s.heap.objs.size f)) → PE (lamX P w K mg base N A outer s H0 E' F f) F.body (tb E')) (hj : ∀ j ∈ js, ∃ d, δ[j]? = some (.dat d))
    (hev : ∀ (M' : Addr → Bool) (H' : Hp) (E' : XK), RaiseOk ⟨K, none, M', H', E', 0, []⟩ PX → Ev ⟨K, none, M', H', E', 0, []⟩ (tb E') (keepS js δ) Pn) :
    ActD P w K mg base (k + 1) f (capV js σ) (capD js δ) (fz Z H) Pn PX := by
  intro M' H' Q E s al rep qn qx
  have zi : In Z H' := fun b o e => s b _ (fz_in e)
  have hh' : ∀ p ∈ hs, H' p.1 = some p.2 := fun p hp => s _ _ (same_fz0 zn _ _ (hh p hp))
  obtain ⟨r1, r2⟩ := li.2 H' hh'
  refine ⟨⟨F, r1⟩, act_lam pr li.1 r2 r1 zi L C hc (by rw [c.ln, hN]) (fun A outer s E' hr => hbody A outer s _ E' hr) ?_⟩
  have rep' := rep.monoW (sameW_uz zi)
  have al' : Al M' (uz Z H') ∨ True := .inr trivial
  -- the mask without the cells
  let M2 : Addr → Bool := fun a => M' a && (Z a).isNone
  have hM2 : hd M2 (uz Z H') = hd M' (uz Z H') := by
    funext a
    unfold hd
    show (if (M' a && (Z a).isNone) = true then none else _) = _
    cases q : Z a with
    | none => simp
    | some o => simp [uz_in q]
  have al2 : Al M2 (uz Z H') := fun a m => by
    have m : (M' a && (Z a).isNone) = true := m
    rw [Bool.and_eq_true] at m
    obtain ⟨o, ho⟩ := al a m.1
    cases q : Z a with
    | none => exact ⟨o, by rw [uz_out q]; exact ho⟩
    | some o => rw [q] at m; cases m.2
  have cx : Ctx ⟨K, none, M2, uz Z H', (fun cls d H'' => (∀ b o, Z b = some o → H'' b = none) → E cls d (fz Z H'')), 0, []⟩ M2 σ (uz Z H') (keepS js δ) := by
    refine ⟨al2, al2, fun _ h => h, StepB.refl _ _, ⟨fun b z => (nomatch z), fun a h => (nomatch h)⟩, by unfold keepS; rw [List.length_mapIdx]; exact c.ln, fun i x hx => ?_, fun i j x y p h1 h2 hp hq => ?_, fun i x p h hp => ?_⟩
    · rcases keepS_get hx with rfl | ⟨d, rfl, hi, h⟩
      · have hl : i < σ.length := by
          have := (List.getElem?_eq_some_iff.mp hx).1
          unfold keepS at this
          rw [List.length_mapIdx] at this
          rw [c.ln]
          exact this
        exact ⟨σ[i], by simp [hl], trivial⟩
      · obtain ⟨v, h1, _⟩ := c.get h
        refine ⟨some v, h1, v, rfl, ?_⟩
        rw [hM2]
        exact cap_get rep' i hi d v h h1
    · rcases keepS_get h1 with rfl | ⟨d, rfl, _⟩ <;> cases hp
    · rcases keepS_get h with rfl | ⟨d, rfl, _⟩ <;> cases hp
  have up : ∀ {H''}, StepB (Fm.mv ⟨K, none, M2, uz Z H', (fun cls d H'' => (∀ b o, Z b = some o → H'' b = none) → E cls d (fz Z H'')), 0, []⟩) (uz Z H') H'' → Same (uz Z H') H'' := fun {H''} s a o h => s a o (mv_none rfl rfl a) h
  have msk : ∀ {H'' : Hp}, (∀ b o, Z b = some o → H'' b = none) → Same (hd M2 H'') (hd M' (fz Z H'')) := fun {H''} zn a o h => by
    obtain ⟨m, h⟩ := hd_of h
    have q : Z a = none := by
      cases q : Z a with
      | none => rfl
      | some o' => rw [zn a o' q] at h; cases h
    refine hd_at ?_ (by rw [fz_out q]; exact h)
    have m : (M' a && (Z a).isNone) = false := m
    rw [q] at m
    simpa using m
  have ok : RaiseOk ⟨K, none, M2, uz Z H', (fun cls d H'' => (∀ b o, Z b = some o → H'' b = none) → E cls d (fz Z H'')), 0, []⟩ PX := fun C gs dx fvs H'' px s0 h0 hx rf zn => by
    have s1 := up s0
    have hz : Z dx = none := by
      cases q : Z dx with
      | none => rfl
      | some o' => rw [zn dx o' q] at hx; cases hx
    refine qx C gs dx fvs (fz Z H'') px (same_uzfz zi s1) ?_ (by rw [fz_out hz]; exact hx) (rf.mono (msk zn))
    have h0 : uz Z H' dx = none := h0
    rwa [uz_out hz] at h0
  refine hev M2 (uz Z H') _ ok M2 σ (uz Z H') _ cx fun v d H'' pd c2 s2 r zn => ?_
  exact qn v d (fz Z H'') pd (same_uzfz zi (up s2)) (r.mono (msk zn))
end
end Pf

namespace Pf
open PySem L2 PfL LamX PfT HandSPX
/-! ### a lambda is made -/
theorem ev_lam {F : Fm} {δ : List SD} {Pd : D → Prop} {P : Addr} {q : Str} {params : Arguments} {body : Expr} {scope : Scope} {cells : List (Str × Addr)} (hT : F.T = [(P, q)]) (hp : params = par0 ∨ params.defaults ≠ [])
    (h : ∀ f F' hs, LamIs f F' hs → F' = ⟨q, params, body, scope, cloFrom cells scope.names [], F'.c, F'.dV⟩ → Pd (.fn f hs [] [])) : Ev F (tMkL P q params body scope cells) δ Pd := fun M σ H Q c g => by
  have hm : (P, q) ∈ F.T := by rw [hT]; simp
  obtain ⟨m0, tS, nx⟩ := c.bg.2 (P, q) hm
  refine ⟨tS, fun f F' H1 mk => ?_⟩
  obtain ⟨ps1, hP1, _⟩ := mk.tab
  have e : StepB F.mv H H1 := fun a o n z => mk.ext a o (fun y => n (.inr ⟨(P, q), hm, y.symm⟩)) z
  have hP : ∃ ps, H P = some (.tbl ps) := by obtain ⟨ps, z, _⟩ := tS; exact ⟨ps, z⟩
  have neP : ∀ {a xs}, H a = some (.lst xs) → a ≠ P := fun {a xs} z y => by
    obtain ⟨ps, w⟩ := hP
    rw [y, w] at z
    cases z
  have nx1 : NX M H1 := fun a φ m z => by
    obtain ⟨o, ho⟩ := c.al a m
    by_cases y : a = P
    · rw [y, hP1] at z
      cases z
    · rw [mk.ext a o y ho] at z
      cases z
      exact nx a φ m ho
  have bag : ∀ b, F.B = some b → F.M0 b = true ∧ BagAt H1 b F.C0 ∧ ∃ o, F.H0 F.C0 = some o := fun b z => by
    obtain ⟨g0, g1, g2⟩ := c.bg.1 b z
    obtain ⟨ns, k, z1, z2, z3, q1, q2, q3, q4⟩ := g1
    exact ⟨g0, ⟨ns, k, z1, z2, z3, mk.ext _ _ (neP q1) q1, q2, mk.ext _ _ (neP q3) q3, q4⟩, g2⟩
  have c1 : Ctx F M σ H1 δ := c.stepG e ⟨bag, fun r z => by
    rw [hT] at z
    rw [List.mem_singleton.mp z]
    exact ⟨m0, mk.tab, nx1⟩⟩
  have mnew : ∀ {a}, H a = none → M a = false := fun {a} z => by
    cases y : M a with
    | false => rfl
    | true => obtain ⟨o, ho⟩ := c.al a y; rw [z] at ho; cases ho
  have mc : M F'.c = false := by
    cases y : M F'.c with
    | false => rfl
    | true => exact absurd mk.rdy.cd (nx1 _ _ y)
  rcases hp with hp | hp
  · have d0 : F'.dV = .none := mk.d0 (by rw [hp]; rfl)
    have hpar : F'.params = params := by rw [mk.eq]
    refine g (.ref f) (.fn f [(f, LamO f F'), (F'.c, CodeO F'.c F'.qual)] [] []) H1 (h f F' _ ⟨fun _ => d0, fun H2 hh => ⟨⟨hh (f, LamO f F') (by simp), hh (F'.c, CodeO F'.c F'.qual) (by simp), .inl d0⟩, fun n => absurd (hpar.trans hp) n⟩⟩ mk.eq) c1 e (.fn (fun p z => ?_) .nil)
    simp only [List.mem_cons, List.not_mem_nil, or_false] at z
    rcases z with rfl | rfl
    · exact ⟨hd_at (mnew mk.new) mk.rdy.fn, fun o u z => by have z : LamO f F' = .frz o u := z; unfold LamO at z; cases z⟩
    · exact ⟨hd_at mc mk.rdy.cd, fun o u z => by have z : CodeO F'.c F'.qual = .frz o u := z; unfold CodeO at z; cases z⟩
  · obtain ⟨t, v, dt, nt, ht⟩ := mk.d1 hp
    have hpar : F'.params = params := by rw [mk.eq]
    refine g (.ref f) (.fn f [(f, LamO f F'), (F'.c, CodeO F'.c F'.qual), (t, .tup [v])] [] []) H1 (h f F' _ ⟨fun y => absurd (by rw [← hpar, y]; rfl) hp, fun H2 hh => ⟨⟨hh (f, LamO f F') (by simp), hh (F'.c, CodeO F'.c F'.qual) (by simp), .inr ⟨t, v, dt, hh (t, .tup [v]) (by simp)⟩⟩, fun _ => ⟨t, v, dt, hh (t, .tup [v]) (by simp)⟩⟩⟩ mk.eq) c1 e (.fn (fun p z => ?_) .nil)
    simp only [List.mem_cons, List.not_mem_nil, or_false] at z
    rcases z with rfl | rfl | rfl
    · exact ⟨hd_at (mnew mk.new) mk.rdy.fn, fun o u z => by have z : LamO f F' = .frz o u := z; unfold LamO at z; cases z⟩
    · exact ⟨hd_at mc mk.rdy.cd, fun o u z => by have z : CodeO F'.c F'.qual = .frz o u := z; unfold CodeO at z; cases z⟩
    · exact ⟨hd_at (mnew nt) ht, fun o u z => by cases z⟩
/-! ### errors as the laws tell them -/
/-- the field that a law reads of an error of this code -/
def fieldOf (n : Str) : Option Str := if n ∈ (["InvalidRow", "InvalidState", "InvalidGroup", "InvalidCommand"] : List Str) then some "at" else if n ∈ (["DuplicateNumber", "UnknownNumber"] : List Str) then some "number" else if n ∈ (["DuplicateName", "UnknownName"] : List Str) then some "name" else
  if n ∈ (["PartsDiffer", "Ended", "NothingLeft"] : List Str) then none else if n ∈ (["InvalidText", "TooMany"] : List Str) then some (if n = "InvalidText" then ("line" : Str) else ("most" : Str)) else if n ∈ (["WrongReader", "Full"] : List Str) then some (if n = "WrongReader" then ("first" : Str) else ("limit" : Str)) else some "given"
def errNames : List Str := ["code", "at", "number", "name", "line", "most", "first", "limit", "given"]
/-- the error's class may be asked for these, its code is n, the field that is read of it is x -/
structure ErrIs (K : PySem.W.Frag) (ct : List Value) (C : Addr) (gs : List (Str × D)) (n : Str) (x : D) : Prop where
  ex : PySem.W.exmAny K (.ref C) ct = some true
  cl : ExcC K C
  na : ∀ f ∈ errNames, PySem.W.findIn K (.ref C) f = some none
  cd : List.lookup ("code" : Str) gs = some (D.str n)
  fd : match fieldOf n with
    | none => x = .non
    | some f => List.lookup (f : Str) gs = some x
def ErrOut (K : PySem.W.Frag) (ct : List Value) (C : Addr) (gs : List (Str × D)) (Po : D → Prop) : Prop := ∃ n x, ErrIs K ct C gs n x ∧ Po (.tup [.str n, x])
/-! ### what _law_try and _law_tries promise -/
section
variable (P : Program) (w : World) (K : PySem.W.Frag) (mg : Str → Option Value) (base : Heap) (k : Nat) (ct : List Value)
/-- a lambda's item: what it comes to is Po -/
structure ItOk (f : Addr) (ws : List V) (cs : List D) (H : Hp) (Po : D → Prop) : Prop where
  ex : ∃ Pn PX, ActD P w K mg base k f ws cs H Pn PX ∧ (∀ d, Pn d → Po (.tup [.str "", d])) ∧ ∀ C gs, PX C gs → ErrOut K ct C gs Po
def spTry : Sp := fun vs H Q _ => ∃ (M : Addr → Bool) (f : Addr) (ws : List V) (cs : List D) (Po : D → Prop), vs = [.ref f] ∧ Al M H ∧ RepL K (hd M H) ws cs ∧ ItOk P w K mg base k ct f ws cs H Po ∧ ∀ v d H', Po d → Same H H' → Rep K (hd M H') v d → Q v H'
abbrev It := Addr × List V × List D × (D → Prop)
def itD (it : It) : D := .fn it.1 [] it.2.1 it.2.2.1
inductive OutL : List It → List D → Prop
  | nil : OutL [] []
  | cons {it : It} {is : List It} {d : D} {ds : List D} : it.2.2.2 d → OutL is ds → OutL (it :: is) (d :: ds)
def spTries : Sp := fun vs H Q _ => ∃ (M : Addr → Bool) (v : V) (is : List It), vs = [v] ∧ Al M H ∧ Rep K (hd M H) v (.lst (is.map itD)) ∧ is.length ≤ 1000 ∧ (∀ it ∈ is, ItOk P w K mg base k ct it.1 it.2.1 it.2.2.1 H it.2.2.2) ∧ ∀ v ds H', OutL is ds → Same H H' → Rep K (hd M H') v (.lst ds) → Q v H'
end
theorem OutL.snoc {it : It} {d : D} (h : it.2.2.2 d) : ∀ {is : List It} {ds : List D}, OutL is ds → OutL (is ++ [it]) (ds ++ [d])
  | _, _, .nil => .cons h .nil
  | _, _, .cons g r => .cons g (r.snoc h)
theorem OutL.len : ∀ {is : List It} {ds : List D}, OutL is ds → ds.length = is.length
  | _, _, .nil => rfl
  | _, _, .cons _ r => by rw [List.length_cons, List.length_cons, r.len]
section
variable {P : Program} {w : World} {K : PySem.W.Frag} {mg : Str → Option Value} {base : Heap} {k : Nat} {ct : List Value}
theorem ActD.later {f : Addr} {ws : List V} {cs : List D} {H H1 : Hp} {Pn : D → Prop} {PX : Addr → List (Str × D) → Prop} (a : ActD P w K mg base k f ws cs H Pn PX) (s : Same H H1) : ActD P w K mg base k f ws cs H1 Pn PX := fun M' H' Q E s1 al r qn qx => a M' H' Q E (s.trans s1) al r qn qx
theorem ItOk.later {f : Addr} {ws : List V} {cs : List D} {H H1 : Hp} {Po : D → Prop} (a : ItOk P w K mg base k ct f ws cs H Po) (s : Same H H1) : ItOk P w K mg base k ct f ws cs H1 Po := by
  obtain ⟨Pn, PX, h, h2⟩ := a.ex
  exact ⟨Pn, PX, h.later s, h2⟩
theorem spTry_len {vs : List V} {H : Hp} {Q : VK} {E : XK} (h : spTry P w K mg base k ct vs H Q E) : vs.length = 1 := by
  obtain ⟨_, _, _, _, _, rfl, _⟩ := h
  rfl
theorem spTries_len {vs : List V} {H : Hp} {Q : VK} {E : XK} (h : spTries P w K mg base k ct vs H Q E) : vs.length = 1 := by
  obtain ⟨_, _, _, rfl, _⟩ := h
  rfl
/-- _law_try(x), x a slot that bears a lambda -/
theorem ev_callTry {F : Fm} {δ : List SD} {E : XK} {Pd : D → Prop} {i f : Nat} {hs : List (Addr × HO)} {ws : List V} {cs : List D} (hK : F.K = K) (hB : F.B = none) (hT : F.T = []) (hi : δ[i]? = some (.dat (.fn f hs ws cs))) (it : ItOk P w K mg base k ct f ws cs F.H0 Pd) :
    Ev F (tCall (spTry P w K mg base k ct) [] E (tCons (tVar i) tNil)) δ Pd := fun M σ H Q c q => by
  subst hK
  obtain ⟨v, h1, r⟩ := c.get hi
  cases r with
  | fn hh r =>
    refine ⟨_, h1, M, f, ws, cs, Pd, rfl, c.al, r, it.later fun a o z => c.fr a o (mv_none hB hT a) z, fun v d H' pd s r2 => q v d H' pd (c.same s) (StepB.of s) r2⟩
end
end Pf

namespace Pf
open PySem L2 PfL LamX PfT HandSPX
section
variable {P : Program} {w : World} {K : PySem.W.Frag} {mg : Str → Option Value} {base : Heap} {k : Nat} {ct : List Value} {N : List Str} {cells : List (Str × Addr)} {δ : List SD}
/-- all that must be known of a lambda so that it may be asked: Po is what comes of it -/
def LamOk (P : Program) (w : World) (K : PySem.W.Frag) (mg : Str → Option Value) (base : Heap) (k : Nat) (ct : List Value) (N : List Str) (cells : List (Str × Addr)) (δ : List SD) (f : Addr) (hs : List (Addr × HO)) (Po : D → Prop) : Prop :=
  ∃ (F' : LF) (as : List Str) (tb : XK → TE) (js : List Nat) (Pn : D → Prop) (PX : Addr → List (Str × D) → Prop), LamIs f F' hs ∧ F'.cl = cloFrom cells F'.scope.names [] ∧ (∀ y ∈ F'.scope.names, y.2 = .free → ∃ c, cells.lookup y.1 = some c) ∧ Par F'.params as ∧ LSc N as F'.scope ∧
    (∀ (A : Around) (outer : List Env) (s : Shared) (H0 : Hp) (E' : XK), Room k (A.deeper (lamE F' s.heap.objs.size f)) → PE (lamX P w K mg base N A outer s H0 E' F' f) F'.body (tb E')) ∧ (∀ j ∈ js, ∃ d, δ[j]? = some (.dat d)) ∧
    (∀ (M' : Addr → Bool) (H' : Hp) (E' : XK), RaiseOk ⟨K, none, M', H', E', 0, []⟩ PX → Ev ⟨K, none, M', H', E', 0, []⟩ (tb E') (keepS js δ) Pn) ∧ (∀ d, Pn d → Po (.tup [.str "", d])) ∧ ∀ C gs, PX C gs → ErrOut K ct C gs Po
theorem lam_item {F : Fm} {M : Addr → Bool} {σ : L2.St} {H : Hp} {Z : Zm} {f : Addr} {hs : List (Addr × HO)} {Po : D → Prop} (c : Ctx F M σ H δ) (hK : F.K = K) (hN : δ.length = N.length) (cz : CFz N σ cells Z) (zn : ∀ b o, Z b = some o → H b = none) (lo : LamOk P w K mg base k ct N cells δ f hs Po) (hh : ∀ p ∈ hs, H p.1 = some p.2) :
    ∃ ws cs, RepL K (hd M (fz Z H)) ws cs ∧ ItOk P w K mg base (k + 1) ct f ws cs (fz Z H) Po := by
  obtain ⟨F', as, tb, js, Pn, PX, li, hcl, hfree, pr, L, hb, hj, hev, hn, hx⟩ := lo
  have cz' : CFz N σ F'.cl Z := ⟨fun y c e => cz.at_ y c (NdefX.clo_cm hfree (hcl ▸ e)), fun x y c e1 e2 => cz.inj x y c (NdefX.clo_cm hfree (hcl ▸ e1)) (NdefX.clo_cm hfree (hcl ▸ e2))⟩
  have hc : ∀ y, F'.scope.names.lookup y = some .free → ∃ c, F'.cl.lookup y = some c := fun y e => by
    obtain ⟨c, hc⟩ := hfree _ (PySem.mem_of_lookup e) rfl
    exact ⟨c, by rw [hcl]; exact NdefX.clo_has hfree (PySem.mem_of_lookup e) hc⟩
  have r := cap_rep c hj
  rw [hK] at r
  exact ⟨capV js σ, capD js δ, r.mono (same_fz zn), ⟨Pn, PX, act_data c hK zn hN li hh pr L cz' hc hb hj hev, hn, hx⟩⟩
theorem al_fz {M : Addr → Bool} {H : Hp} {Z : Zm} (al : Al M H) : Al M (fz Z H) := fun a m => by
  obtain ⟨o, ho⟩ := al a m
  cases q : Z a with
  | none => exact ⟨o, by rw [fz_out q]; exact ho⟩
  | some o' => exact ⟨_, fz_in q⟩
theorem same_back {H1 H' : Hp} {Z : Zm} (zn : ∀ b o, Z b = some o → H1 b = none) (s : Same (fz Z H1) H') : Same H1 (uz Z H') := fun a o h => by
  cases q : Z a with
  | none =>
    rw [uz_out q]
    exact s a o (by rw [fz_out q]; exact h)
  | some o' => rw [zn a o' q] at h; cases h
inductive OutF : List (D → Prop) → List D → Prop
  | nil : OutF [] []
  | cons {p : D → Prop} {ps : List (D → Prop)} {d : D} {ds : List D} : p d → OutF ps ds → OutF (p :: ps) (d :: ds)
abbrev Lit := Addr × List (Addr × HO) × (D → Prop)
def litD (it : Lit) : D := .fn it.1 it.2.1 [] []
theorem lam_items {F : Fm} {M : Addr → Bool} {σ : L2.St} {H : Hp} {Z : Zm} (c : Ctx F M σ H δ) (hK : F.K = K) (hN : δ.length = N.length) (cz : CFz N σ cells Z) (zn : ∀ b o, Z b = some o → H b = none) : ∀ {ls : List Lit} {vs : List V}, (∀ l ∈ ls, LamOk P w K mg base k ct N cells δ l.1 l.2.1 l.2.2) → RepL K (hd M H) vs (ls.map litD) →
    ∃ is : List It, RepL K (hd M (fz Z H)) vs (is.map itD) ∧ is.length = ls.length ∧ (∀ it ∈ is, ItOk P w K mg base (k + 1) ct it.1 it.2.1 it.2.2.1 (fz Z H) it.2.2.2) ∧ ∀ ds, OutL is ds → OutF (ls.map fun l => l.2.2) ds
  | [], [], _, _ => ⟨[], .nil, rfl, fun it h => (nomatch h), fun ds o => (by cases o; exact .nil)⟩
  | l :: ls, v :: vs, lo, .cons r rs => by
    obtain ⟨is, r2, e, ok, out⟩ := lam_items c hK hN cz zn (fun x hx => lo x (List.mem_cons_of_mem _ hx)) rs
    have r : Rep K (hd M H) v (.fn l.1 l.2.1 [] []) := r
    cases r with
    | fn hh _ =>
      obtain ⟨ws, cs, r3, it⟩ := lam_item c hK hN cz zn (lo l (by simp)) fun p hp => (hd_of (hh p hp).1).2
      refine ⟨(l.1, ws, cs, l.2.2) :: is, .cons (.fn (fun p hp => by cases hp) r3) r2, by simp [e], fun x hx => ?_, fun ds o => ?_⟩
      · rcases List.mem_cons.mp hx with rfl | hx
        · exact it
        · exact ok x hx
      · cases o with
        | cons p o => exact .cons p (out _ o)
/-- _law_tries(e) -/
theorem ev_fzL {F : Fm} {te : TE} {Pd : D → Prop} (hK : F.K = K) (hN : δ.length = N.length) (h : Ev F te δ fun d => ∃ ls : List Lit, d = .lst (ls.map litD) ∧ ls.length ≤ 1000 ∧ (∀ l ∈ ls, LamOk P w K mg base k ct N cells δ l.1 l.2.1 l.2.2) ∧ ∀ ds, OutF (ls.map fun l => l.2.2) ds → Pd (.lst ds)) :
    Ev F (tFz N cells (spTries P w K mg base (k + 1) ct) te) δ Pd := fun M σ H Q c q =>
  h M σ H _ c fun v d H1 pd c1 e1 r1 Z cz zn => by
    subst hK
    obtain ⟨ls, rfl, hl, lo, po⟩ := pd
    cases r1 with
    | @lst a xs _ h1 h2 =>
      obtain ⟨is, r, e, ok, out⟩ := lam_items c1 rfl hN cz zn lo h2
      refine ⟨M, _, is, rfl, al_fz c1.al, .lst (same_fz zn _ _ h1) r, by omega, ok, fun v ds H' o s r2 zi => ?_⟩
      have s1 := same_back zn s
      exact q v (.lst ds) (uz Z H') (po ds (out ds o)) (c1.same s1) (e1.trans (StepB.of s1)) (r2.monoW (sameW_uz zi))
end
/-! ### the field of an error -/
def spField (K : PySem.W.Frag) (ct : List Value) (C a dx : Addr) : Sp := fun vs H Q _ => ∃ (M : Addr → Bool) (fvs : List (Str × V)) (gs : List (Str × D)) (n : Str) (x : D), vs = [.ref a] ∧ Al M H ∧ hd M H dx = some (.xd fvs) ∧ RepF K (hd M H) fvs gs ∧ ErrIs K ct C gs n x ∧ ∀ v H', Same H H' → Rep K (hd M H') v x → Q v H'
theorem repF_keys {K : PySem.W.Frag} {H : Hp} : ∀ {vs : List (Str × V)} {gs : List (Str × D)}, RepF K H vs gs → vs.map Prod.fst = gs.map Prod.fst ∧ RepL K H (vs.map Prod.snd) (gs.map Prod.snd)
  | _, _, .nil => ⟨rfl, .nil⟩
  | _, _, .cons h r => ⟨by rw [List.map_cons, List.map_cons, (repF_keys r).1], .cons h (repF_keys r).2⟩
theorem repF_of {K : PySem.W.Frag} {H : Hp} : ∀ {vs : List (Str × V)} {gs : List (Str × D)}, vs.map Prod.fst = gs.map Prod.fst → RepL K H (vs.map Prod.snd) (gs.map Prod.snd) → RepF K H vs gs
  | [], [], _, _ => .nil
  | [], _ :: _, e, _ => by cases e
  | _ :: _, [], e, _ => by cases e
  | (k, v) :: vs, (k', d) :: gs, e, .cons h r => by
    rw [List.map_cons, List.map_cons, List.cons.injEq] at e
    obtain ⟨e1, e2⟩ := e
    have e1 : k = k' := e1
    subst e1
    exact .cons h (repF_of e2 r)
/-- a slot that bears an error in hand: its dict, its fields -/
def errD (a dx : Addr) (fvs : List (Str × V)) (gs : List (Str × D)) : D := .fn a [(dx, .xd fvs)] (fvs.map Prod.snd) (gs.map Prod.snd)
theorem ev_xfp {F : Fm} {δ : List SD} {i : Nat} {a dx : Addr} {fvs : List (Str × V)} {gs : List (Str × D)} {n : Str} {x : D} {Pd : D → Prop} (hi : δ[i]? = some (.dat (errD a dx fvs gs))) (hk : fvs.map Prod.fst = gs.map Prod.fst) (hg : List.lookup n gs = some x) (p : Pd x) : Ev F (tXfp a dx n (tVar i)) δ Pd := fun M σ H Q c q => by
  obtain ⟨v, h1, r⟩ := c.get hi
  unfold errD at r
  cases r with
  | fn hh r =>
    obtain ⟨y, hy, ry⟩ := (repF_of hk r).get hg
    exact ⟨_, h1, rfl, fvs, y, (hd_of (hh (dx, .xd fvs) (by simp)).1).2, hy, q y x H p c (StepB.refl _ _) ry⟩
end Pf

namespace Pf
open PySem L2 PfL LamX PfT HandSPX
theorem al_mono {M : Addr → Bool} {H H' : Hp} (al : Al M H) (s : Same H H') : Al M H' := fun a m => by
  obtain ⟨o, h⟩ := al a m
  exact ⟨o, s a o h⟩
theorem same_hdS {M : Addr → Bool} {H H' : Hp} (s : Same H H') : Same (hd M H) (hd M H') := fun a o h => by
  obtain ⟨m, h⟩ := hd_of h
  exact hd_at m (s a o h)
/-- return ("", x()) -/
def tbT (P : Program) (w : World) (K : PySem.W.Frag) (mg : Str → Option Value) (base : Heap) (k : Nat) : WX → TS := fun W Dn σ H =>
  ∃ Ech : XK, (∀ cls d (σ' : L2.St) H', σ'.length = 2 → Ech cls d H' → W cls d σ' H') ∧ tRet (tTup (tCons (tC (.str "")) (tCons (tAsk P w K mg base k 0 Ech) tNil))) Dn σ H
/-- return (e.code, _law_field(e)) -/
def tsT (K : PySem.W.Frag) (ct : List Value) : Addr → Value → Option Addr → TS := fun a cls d Dn σ H =>
  ∃ C dx, cls = .ref C ∧ d = some dx ∧ ExcC K C ∧ PySem.W.findIn K (.ref C) "code" = some none ∧ tRet (tTup (tCons (tXfp a dx "code" (tVar 1)) (tCons (tCall (spField K ct C a dx) [] (fun _ _ _ => False) (tCons (tVar 1) tNil)) tNil))) Dn σ H
theorem try_runs {P : Program} {w : World} {K : PySem.W.Frag} {mg : Str → Option Value} {base : Heap} {k : Nat} {ct : List Value} {N : List Str} {vs : List V} {H : Hp} {Q : VK} {E : XK} (hN : N.length = 2) (h : spTry P w K mg base k ct vs H Q E) :
    tbT P w K mg base k (wAsT K ct 1 (tsT K ct) (fun _ _ _ _ => False) { nx := fun _ H' => Q .non H', rt := Q }) { nx := fun _ H' => Q .non H', rt := Q } (L2.start N vs) H := by
  obtain ⟨M, f, ws, cs, Po, rfl, al, r, it, q⟩ := h
  obtain ⟨Pn, PX, act, hn, hx⟩ := it.ex
  refine ⟨fun cls d H' => ∀ σ' : L2.St, σ'.length = 2 → wAsT K ct 1 (tsT K ct) (fun _ _ _ _ => False) { nx := fun _ H' => Q .non H', rt := Q } cls d σ' H', fun cls d σ' H' hl e => e σ' hl, ?_⟩
  obtain ⟨⟨F', rdy⟩, ta⟩ := act M H (fun v H1 => 2 ≤ sizeLine ∧ ∀ p, H1 p = none → Q (.ref p) (upd H1 p (.tup [.str "", v]))) (fun cls d H' => ∀ σ' : L2.St, σ'.length = 2 → wAsT K ct 1 (tsT K ct) (fun _ _ _ _ => False) { nx := fun _ H' => Q .non H', rt := Q } cls d σ' H') (Same.refl H) al r
    (fun v d H'' pd s rv => ⟨sz_of (show 2 ≤ 100000 by decide), fun p hp => q (.ref p) (.tup [.str "", d]) _ (hn d pd) (s.trans (same_new hp)) (.tup (SqT.of (hd_new (al_mono al s) hp)) (.cons (.str _) (.cons (rv.mono (same_hdS (same_new hp))) .nil)))⟩)
    (fun C gs dx fvs H'' px s h0 hx' rf σ' hl => by
      obtain ⟨n, x, ei, po⟩ := hx C gs px
      have al'' := al_mono al s
      have mdx : M dx = false := by
        cases y : M dx with
        | false => rfl
        | true => obtain ⟨o, ho⟩ := al dx y; rw [h0] at ho; cases ho
      obtain ⟨y, hy, ry⟩ := rf.get ei.cd
      cases ry
      refine ⟨true, ei.ex, fun _ a ha => ⟨C, dx, rfl, rfl, ei.cl, ei.na _ (by decide), ?_⟩, fun z => by cases z⟩
      have h1 : (σ'.set 1 (some (V.ref a)))[1]? = some (some (V.ref a)) := by
        rw [List.getElem?_set_self (by omega)]
      refine ⟨_, h1, rfl, fvs, .str n, hx', hy, _, h1, ?_⟩
      show spField K ct C a dx ([.ref a] ++ []) H'' _ (fun _ _ _ => False)
      refine ⟨M, fvs, gs, n, x, rfl, al'', hd_at mdx hx', rf, ei, fun v H3 s3 rv => ⟨sz_of (show 2 ≤ 100000 by decide), fun p hp => ?_⟩⟩
      have s4 : Same H'' (upd H3 p (.tup [.str n, v])) := s3.trans (same_new hp)
      exact q (.ref p) (.tup [.str n, x]) _ po (s.trans s4) (.tup (SqT.of (hd_new (al_mono al'' s3) hp)) (.cons (.str _) (.cons (rv.mono (same_hdS (same_new hp))) .nil))))
  have h0 : (L2.start N [V.ref f])[0]? = some (some (V.ref f)) := rfl
  exact ⟨f, F', h0, rdy, ta⟩
/-! ### the law's frame, with its table -/
def spLawT (K : PySem.W.Frag) (P : Addr) : Sp := fun vs H Q _ => ∃ (a : Addr) (ns : List Int), vs = [.ref a] ∧ SqL K H a (ns.map V.int) ∧ ns.length ≤ 63 ∧ H P = some (.tbl #[]) ∧ ∀ H', Q (.bl true) H'
theorem lawDoT {K : PySem.W.Frag} {H1 : Hp} {b c P : Addr} {q : Str} {t : TS} {Q : VK} {σ : L2.St} {δ : List SD} (ba : BagAt H1 b c) (tS : LamX.TabS H1 P q) (hl : σ.length = δ.length) (h1 : σ[1]? = some (some (.ref b))) (hδ : ∀ i x, δ[i]? = some x → x = .un ∨ (i = 1 ∧ x = .bag))
    (hb : ∀ (M0 : Addr → Bool) (E : XK), Do ⟨K, some b, M0, H1, E, c, [(P, q)]⟩ t δ { nx := fun _ => False, rt := fun d => d = .bl true }) (qq : ∀ H', Q (.bl true) H') : t { nx := fun _ H' => Q .non H', rt := Q } σ H1 := by
  have hc : ∃ o, H1 c = some o := by
    obtain ⟨ns, i, z, s, t, _, _, h3, _⟩ := ba
    exact ⟨_, h3⟩
  have hP : ∃ ps, H1 P = some (.tbl ps) := by
    obtain ⟨ps, h, _⟩ := tS
    exact ⟨ps, h⟩
  have at_ : ∀ a, (decide (a = b) || decide (a = P)) = true → a = b ∨ a = P := fun a h => by simpa using h
  have al : ∀ a, (decide (a = b) || decide (a = P)) = true → ∃ o, H1 a = some o := fun a h => by
    rcases at_ a h with rfl | rfl
    · exact ba.at
    · obtain ⟨ps, h⟩ := hP
      exact ⟨_, h⟩
  have nx : NX (fun a => decide (a = b) || decide (a = P)) H1 := fun a φ m z => by
    rcases at_ a m with rfl | rfl
    · obtain ⟨_, _, _, _, _, h3, _⟩ := ba
      rw [z] at h3
      cases h3
    · obtain ⟨ps, h⟩ := hP
      rw [z] at h
      cases h
  have cx : Ctx ⟨K, some b, fun a => decide (a = b) || decide (a = P), H1, fun _ _ _ => True, c, [(P, q)]⟩ (fun a => decide (a = b) || decide (a = P)) σ H1 δ := by
    refine ⟨al, al, fun _ h => h, StepB.refl _ _, ⟨fun b' z => ?_, fun p h => ?_⟩, hl, fun i x hx => ?_, fun i j x y p h1 h2 hp hq => ?_, fun i x p h hp => ?_⟩
    · cases z
      exact ⟨by simp, ba, hc⟩
    · rw [List.mem_singleton.mp h]
      exact ⟨by simp, tS, nx⟩
    · have hi : i < σ.length := by
        have := (List.getElem?_eq_some_iff.mp hx).1
        omega
      rcases hδ i x hx with rfl | ⟨rfl, rfl⟩
      · exact ⟨σ[i], by simp [hi], trivial⟩
      · exact ⟨_, h1, b, rfl, rfl⟩
    · rcases hδ i _ h1 with rfl | ⟨_, rfl⟩ <;> cases hp
    · rcases hδ i _ h with rfl | ⟨_, rfl⟩ <;> cases hp
  refine hb _ _ _ σ H1 _ cx (fun _ _ _ _ p => p.elim) (fun v d M' σ' H' δ' p _ _ r => ?_) (fun _ _ _ _ p => p.elim) (fun _ _ _ _ p => p.elim)
  have e : d = .bl true := p
  subst e
  cases r
  exact qq H'
end Pf

namespace Pf
open PySem L2 PfL LamX PfT HandSPX
/-! ### an __init__ that may raise; its last argument is a sequence -/
section
variable {K : PySem.W.Frag} {N : List Str} {vs : List V} {H : Hp} {Q : VK} {E : XK} {t : TS} {C : Addr} {Pre : List D → List D → Prop} {Post : List D → List D → List (Str × D) → Prop} {PX : List D → List D → Addr → List (Str × D) → Prop}
end
end Pf

namespace Pf
open PySem L2 PfL LamX PfT HandSPX PyProof.Rows
/-! ### passing errors on; the law's frame and its cells -/
theorem passX {X : Cx} {E : XK} {E₁ : Value → Shared → Prop} (hs : X.stack = X.env :: X.outer := by rfl) (hf : X.env.frame = some X.env.locals := by rfl) (hex : X.ex = [] := by rfl)
    (hx : X.xe = (fun e s' => wpAny (model X.prog X.w) X.A (leaving X.env e) (fun _ s'' => L2.CX X.prog X.w X.outer X.H_0 X.s_0 E e s'') E₁ s') := by rfl) : Passes (L2.CX X.prog X.w) X E := passes_call (takes_of hs hf hex hx) fun _ _ _ _ h => h
theorem lam_free {X : Cx} {scope : Scope} (h : (scope.names.all fun y => !decide (y.2 = .free) || decide (X.env.scope.names.lookup y.1 = some .cell)) = true) : X.Ok → ∀ y ∈ scope.names, y.2 = .free → ∃ c, X.env.cells.lookup y.1 = some c := fun ok y hy e => by
  have := List.all_eq_true.mp h y hy
  simp only [Bool.or_eq_true, Bool.not_eq_true', decide_eq_false_iff_not, decide_eq_true_eq] at this
  rcases this with z | z
  · exact absurd e z
  · exact ok.has _ (.inl z)
theorem lookup_of_nd {α : Type} : ∀ {l : List (Str × α)} {x : Str} {k : α}, (l.map Prod.fst).Nodup → (x, k) ∈ l → l.lookup x = some k
  | [], _, _, _, h => by cases h
  | (y, j) :: l, x, k, nd, h => by
    rw [List.map_cons, List.nodup_cons] at nd
    rcases List.mem_cons.mp h with e | h
    · cases e
      simp [List.lookup_cons]
    · have ne : x ≠ y := fun e => nd.1 (List.mem_map.mpr ⟨(x, k), h, e⟩)
      rw [List.lookup_cons, show (x == y) = false from beq_eq_false_iff_ne.mpr ne]
      exact lookup_of_nd nd.2 h
theorem law_knd {names : List (Str × NameKind)} {n : Nat} (nd : (names.map Prod.fst).Nodup) : ∀ y c, (cellsFrom n names []).lookup y = some c → names.lookup y = some .cell := fun y c h => by
  rcases cells_kind names n [] (PySem.mem_of_lookup h) with z | ⟨z, _⟩
  · cases z
  · exact lookup_of_nd nd z
/-- a def whose code object is known -/
structure FunC (K : PySem.W.Frag) (x qual : Str) (st : Stmt) (f c : Addr) (fd : FuncData) : Prop where
  ex : ∃ (oc : Value) (od : Option Addr) (kV doc pm : Value) (an : Option Addr) (ct : Value) (osl : Array (Option Value)),
    fd = PySem.W.fnOf x qual (defArgs st) (defBody st) (defScope st) .none kV doc pm an (.ref c) ct ∧ K.lookup f = some ⟨oc, od, .func fd, osl⟩ ∧ PySem.W.codeIn K (.ref c) qual = true
theorem FunC.ok {P : Program} {w : World} {K : PySem.W.Frag} {mg : Str → Option Value} {base : Heap} {x qual : Str} {st : Stmt} {f c : Addr} {fd : FuncData} {N ps : List Str} {k : Nat} {sp : Sp} (F : FunC K x qual st f c fd) (S : FnScope N ps (defScope st)) (len : ∀ vs H Q E, sp vs H Q E → vs.length = ps.length)
    (hbody : ∀ (A : Around) (outer : List Env) (s : Shared) (H : Hp) (vs : List V) (Q : VK) (E : XK), Room k (A.deeper (envOfC qual (defScope st) s.heap.objs.size f (.ref c))) → sp vs H Q E →
      ∃ t, PSs (cxOf CX0 P w K mg base N qual (defScope st) f (.ref c) A outer s H E).nox (defBody st) t ∧ t { nx := fun _ H' => Q .non H', rt := Q } (L2.start N vs) H) : FnOk P w K mg base CX0 (k + 1) f fd ps sp := by
  obtain ⟨oc, od, kV, doc, pm, an, ct, osl, rfl, lk, hcd⟩ := F.ex
  refine fn_of lk hcd S len fun A outer s H vs Q E hr hsp => ?_
  obtain ⟨t, h, q⟩ := hbody A outer s H vs Q E hr hsp
  exact ⟨t, h.nox, q⟩
theorem pss_ex {X : Cx} {st : List Stmt} {t : TS} (h : ∀ D σ H, t D σ H → ∃ t', PSs X st t' ∧ t' D σ H) : PSs X st t := ⟨fun pins s σ H D I g => by
  obtain ⟨t', p, g⟩ := h D σ H g
  exact p.run pins s σ H D I g⟩
end Pf

namespace Pf
open PySem L2 PfL LamX PfT HandSPX PyProof.Rows
/-! ### a def of one sequence that may raise -/
section
variable {K : PySem.W.Frag} {N : List Str} {vs : List V} {H : Hp} {Q : VK} {E : XK} {t : TS} {Pre : List D → Prop} {Post : List D → D → Prop} {PX : List D → Addr → List (Str × D) → Prop}
end
section
variable {F : Fm} {δ : List SD} {P : D → Prop} {Pre : List D → Prop} {Post : List D → D → Prop} {PX : List D → Addr → List (Str × D) → Prop} {QX : Addr → List (Str × D) → Prop}
end
end Pf

/-! CoreZ3: a tuple told backwards, t[::-1]. -/
namespace Bk
open PySem PyProof.Rows
section
variable {prog : Program} {w : World} {A : Around} {E : Value → Shared → Prop} {s : Shared}
theorem applied {sl : Addr} {vc : Value} {n : Nat} {Q : Int × Int × Nat → Shared → Prop} (hs : s.heap.IsSliceOf sl .none .none vc) (pc : IsPart vc (some (-1))) (q : Q ((n : Int) - 1, -1, n) s) : wpAny (model prog w) A (Builtin.Slice.sliceApplied (.ref sl) (pure (n : Int))) Q E s := by
  obtain ⟨o, ho, _, hd⟩ := id hs
  unfold Builtin.Slice.sliceApplied Builtin.Slice.sliceFields
  refine wpAny_bind (wpAny_bind (wpAny_field ho hd (x := .none) rfl (wpAny_bind (wpAny_field ho hd (x := .none) rfl (wpAny_bind (wpAny_field ho hd (x := vc) rfl (wpAny_pure ?_)))))))
  refine wpAny_bind (HT.slicePart_ pc ?_)
  show wpAny _ _ (if ((-1 : Int) == 0) = true then _ else _) _ _ s
  rw [if_neg (by decide)]
  refine wpAny_bind (HT.slicePart_ .none (wpAny_bind (HT.slicePart_ .none (wpAny_bind (wpAny_pure ?_)))))
  have e : Builtin.Slice.slicePlaces ((n : Int) - 1) (-1) (-1) = n := by
    unfold Builtin.Slice.slicePlaces
    rw [if_neg (by decide)]
    by_cases h : ((n : Int) - 1 > -1)
    · rw [if_pos h]
      show ((((n : Int) - 1 - -1 - 1) / (- -1)) + 1).toNat = n
      rw [show (- -1 : Int) = 1 by decide, Int.ediv_one]
      omega
    · rw [if_neg h]
      have : n = 0 := by omega
      subst this
      rfl
  show wpAny _ _ (pure ((n : Int) - 1, (-1 : Int), Builtin.Slice.slicePlaces ((n : Int) - 1) (-1) (-1))) _ _ s
  rw [e]
  exact wpAny_pure q
theorem fm_same {α β : Type} {f g : α → Option β} : ∀ {l : List α}, (∀ k ∈ l, f k = g k) → l.filterMap f = l.filterMap g
  | [], _ => rfl
  | k :: l, h => by
    rw [List.filterMap_cons, List.filterMap_cons, h k (by simp), fm_same fun j hj => h j (List.mem_cons_of_mem _ hj)]
theorem picked (xs : Array Value) : ((List.range xs.size).filterMap fun (k : Nat) => xs[(((xs.size : Int) - 1) + (k : Int) * (-1)).toNat]?).toArray = xs.toList.reverse.toArray := by
  have e : (List.range xs.size).filterMap (fun (k : Nat) => xs[(((xs.size : Int) - 1) + (k : Int) * (-1)).toNat]?) = ((List.range xs.size).map fun k => xs.size - 1 - k).filterMap (xs[·]?) := by
    rw [List.filterMap_map]
    refine fm_same fun k hk => ?_
    have := List.mem_range.mp hk
    have e : (((xs.size : Int) - 1) + (k : Int) * (-1)).toNat = xs.size - 1 - k := by omega
    show xs[(((xs.size : Int) - 1) + (k : Int) * (-1)).toNat]? = xs[xs.size - 1 - k]?
    rw [e]
  rw [e, PySem.W.krv_range, List.filterMap_reverse, PySem.W.krv_all]
theorem item {t sl : Addr} {its : List Value} {vc : Value} {Q : Value → Shared → Prop} (ht : IsTup s.heap t its.toArray) (hs : s.heap.IsSliceOf sl .none .none vc) (pc : IsPart vc (some (-1))) (hz : its.toArray.size ≤ sizeLine)
    (q : Q (.ref s.heap.objs.size) { s with heap := s.heap.push { cls := .type "tuple", data := .seq its.reverse.toArray } }) : wpAny (model prog w) A (getItem (.ref t) (.ref sl)) Q E s := by
  have fits : sizeOk (.seq its.reverse.toArray) := by
    show its.reverse.toArray.size ≤ sizeLine
    rw [List.size_toArray] at hz ⊢
    rw [List.length_reverse]
    exact hz
  obtain ⟨o, ho, hc, _⟩ := id hs
  have hT : s.TypeIs (.ref sl) "slice" := ⟨o, ho, hc⟩
  unfold getItem
  try with_reducible refine wpAny_holding ?_
  first | refine wpAny_bind (wpAny_pure ?_) | skip
  refine wpAny_bind (wpAny_sequenceKey ht.typeIs (by decide) ?_)
  refine wpAny_bind (wpAny_callSpecial?_slot (name := Str.ofString "__getitem__") ht.typeIs PyProof.Rows.slot_tuple_getitem (wpAny_call_entry PyProof.Rows.slot_tuple_getitem ht.typeIs entry_tuple_getitem ?_ (args_tuple_getitem _ _)))
  show wpAny _ _ (Builtin.Tuple.tupleItemsOf (.ref t) >>= _) _ _ s
  refine wpAny_bind (PyProof.Rows.tupleItemsOf_ ht ?_)
  refine wpAny_bind (wpAny_typeOf hT ?_)
  rw [if_pos (by decide)]
  refine wpAny_bind (applied hs pc ?_)
  have no : ¬ ((((its.toArray.size : Int) - 1 == 0) && ((-1 : Int) == 1) && (its.toArray.size == its.toArray.size)) = true) := by
    intro z
    rw [Bool.and_eq_true, Bool.and_eq_true] at z
    exact absurd z.1.2 (by decide)
  show wpAny _ _ (if ((((its.toArray.size : Int) - 1 == 0) && ((-1 : Int) == 1) && (its.toArray.size == its.toArray.size)) = true) then _ else _) _ _ s
  rw [if_neg no, picked]
  first
    | exact wpAny_bind (m := Builtin.Tuple.tupleExact _) (wpAny_newObj_type (wpAny_pure ⟨_, rfl, wpAny_pure q⟩) fits)
    | exact wpAny_bind (m := Builtin.Tuple.tupleExact _) (wpAny_newObj_type (wpAny_bind (wpAny_pure (wpAny_pure ⟨_, rfl, wpAny_pure q⟩))) fits)
    | exact wpAny_bind (wpAny_bind (m := Builtin.Tuple.tupleExact _) (wpAny_newObj_type (wpAny_pure (wpAny_pure ⟨_, rfl, wpAny_pure q⟩)) fits))
    | exact wpAny_bind (wpAny_bind (m := Builtin.Tuple.tupleExact _) (wpAny_newObj_type (wpAny_pure ⟨_, rfl, wpAny_pure q⟩) fits))
end
end Bk
namespace L2
open PySem PySem.Spec PyProof.Rows
end L2
namespace Pf
open PySem L2 RZ
theorem repL_map {α : Type} {K : PySem.W.Frag} {H : Hp} {f : α → V} {g : α → D} (h : ∀ a, Rep K H (f a) (g a)) : ∀ {l : List α}, RepL K H (l.map f) (l.map g)
  | [] => .nil
  | a :: _ => .cons (h a) (repL_map h)
theorem ev_tupRg1 {F : Fm} {δ : List SD} {te : TE} {P : D → Prop} (h : Ev F te δ fun d => ∃ n : Int, d = .int n ∧ 0 ≤ n ∧ n ≤ 1000 ∧ P (.tup (upto 0 n.toNat))) : Ev F (tTupRg (tRg1 te)) δ P := fun M σ H Q c q =>
  h M σ H _ c fun v d H1 p c1 e1 r => by
    obtain ⟨n, rfl, h0, h1, p⟩ := p
    cases r
    refine ⟨n, rfl, RgOk.of_le (by omega) (by omega) (by omega) (by omega), fun a ha => ?_⟩
    have e : rgV 0 n = (List.range n.toNat).map fun i => V.int (0 + (i : Nat)) := by
      unfold rgV
      rw [Int.sub_zero]
    rw [e]
    refine q _ _ _ p (c1.same (same_new ha)) (e1.trans (StepB.of (same_new ha))) (.tup (SqT.of (hd_new c1.al ha)) ?_)
    unfold upto
    exact repL_map fun i => .int _
end Pf

namespace Pf
open PySem L2 PfL LamX PfT HandSPX PyProof.Rows
/-! ### a lambda known whole; the law's frame behind its bag -/
theorem law_cells {names sub : List (Str × NameKind)} {n : Nat} (h : (sub.all fun y => !decide (y.2 = .free) || decide (names.lookup y.1 = some .cell)) = true) : ∀ y ∈ sub, y.2 = .free → ∃ c, (cellsFrom n names []).lookup y.1 = some c := fun y hy e => by
  have := List.all_eq_true.mp h y hy
  simp only [Bool.or_eq_true, Bool.not_eq_true', decide_eq_false_iff_not, decide_eq_true_eq] at this
  rcases this with z | z
  · exact absurd e z
  · exact Option.isSome_iff_exists.mp (PySem.W.cellsFrom_some names n [] (.inl z))
section
variable {P : Program} {w : World} {K : PySem.W.Frag} {mg : Str → Option Value} {base : Heap} {k : Nat} {ct : List Value} {N as : List Str} {cells : List (Str × Addr)} {δ : List SD} {f : Addr} {hs : List (Addr × HO)} {Po : D → Prop} {F' : LF} {q : Str} {params : Arguments} {body : Expr} {scope : Scope}
theorem lam_mk {Pn : D → Prop} {PX : Addr → List (Str × D) → Prop} (tb : XK → TE) (js : List Nat) (li : LamIs f F' hs) (eq : F' = ⟨q, params, body, scope, cloFrom cells scope.names [], F'.c, F'.dV⟩) (hfree : ∀ y ∈ scope.names, y.2 = .free → ∃ c, cells.lookup y.1 = some c) (pr : Par params as) (L : LSc N as scope)
    (hbody : ∀ (c : Addr) (dV : Value) (A : Around) (outer : List Env) (s : Shared) (H0 : Hp) (E' : XK), Room k (A.deeper (lamE ⟨q, params, body, scope, cloFrom cells scope.names [], c, dV⟩ s.heap.objs.size f)) → PE (lamX P w K mg base N A outer s H0 E' ⟨q, params, body, scope, cloFrom cells scope.names [], c, dV⟩ f) body (tb E'))
    (hj : ∀ j ∈ js, ∃ d, δ[j]? = some (.dat d)) (hev : ∀ (M' : Addr → Bool) (H' : Hp) (E' : XK), RaiseOk ⟨K, none, M', H', E', 0, []⟩ PX → Ev ⟨K, none, M', H', E', 0, []⟩ (tb E') (keepS js δ) Pn) (hn : ∀ d, Pn d → Po (.tup [.str "", d])) (hx : ∀ C gs, PX C gs → ErrOut K ct C gs Po) : LamOk P w K mg base k ct N cells δ f hs Po := by
  obtain ⟨q', p', b', s', cl', c', dV'⟩ := F'
  injection eq with h1 h2 h3 h4 h5 h6 h7
  subst h1 h2 h3 h4 h5
  exact ⟨_, as, tb, js, Pn, PX, li, rfl, hfree, pr, L, fun A outer s H0 E' hr => hbody c' dV' A outer s H0 E' hr, hj, hev, hn, hx⟩
/-- it comes to an error -/
theorem lam_bad (tb : XK → TE) (js : List Nat) (C : Addr) (gs : List (Str × D)) (n : Str) (x : D) (ei : ErrIs K ct C gs n x) (li : LamIs f F' hs) (eq : F' = ⟨q, params, body, scope, cloFrom cells scope.names [], F'.c, F'.dV⟩) (hfree : ∀ y ∈ scope.names, y.2 = .free → ∃ c, cells.lookup y.1 = some c) (pr : Par params as) (L : LSc N as scope)
    (hbody : ∀ (c : Addr) (dV : Value) (A : Around) (outer : List Env) (s : Shared) (H0 : Hp) (E' : XK), Room k (A.deeper (lamE ⟨q, params, body, scope, cloFrom cells scope.names [], c, dV⟩ s.heap.objs.size f)) → PE (lamX P w K mg base N A outer s H0 E' ⟨q, params, body, scope, cloFrom cells scope.names [], c, dV⟩ f) body (tb E'))
    (hj : ∀ j ∈ js, ∃ d, δ[j]? = some (.dat d)) (hev : ∀ (M' : Addr → Bool) (H' : Hp) (E' : XK), RaiseOk ⟨K, none, M', H', E', 0, []⟩ (fun C' gs' => C' = C ∧ gs' = gs) → Ev ⟨K, none, M', H', E', 0, []⟩ (tb E') (keepS js δ) fun _ => False) : LamOk P w K mg base k ct N cells δ f hs (· = .tup [.str n, x]) :=
  lam_mk (Pn := fun _ => False) tb js li eq hfree pr L hbody hj hev (fun _ h => h.elim) fun C' gs' ⟨e1, e2⟩ => by
    subst e1 e2
    exact ⟨n, x, ei, rfl⟩
theorem keep_dat {js : List Nat} {i : Nat} {d : D} (h : δ[i]? = some (.dat d)) (hi : i ∈ js) : (keepS js δ)[i]? = some (.dat d) := by
  unfold keepS
  rw [List.getElem?_mapIdx, h]
  show some (if i ∈ js then SD.dat d else .un) = _
  rw [if_pos hi]
end
/-- the slot of a captured name -/
theorem ev_cap {F : Fm} {δ : List SD} {P : D → Prop} {js : List Nat} {i : Nat} {d : D} (h : δ[i]? = some (.dat d)) (hi : i ∈ js) (p : P d) : Ev F (tVar i) (keepS js δ) P := ev_var (keep_dat h hi) p
end Pf
namespace Pf
open PySem L2
theorem nodup_by {names : List (Str × NameKind)} (h : decide ((names.map Prod.fst).Nodup) = true) : (names.map Prod.fst).Nodup := of_decide_eq_true h
end Pf

/-! CoreZ5: x in own, x not in own; methods that may raise. -/
namespace Pf
open PySem L2 PfL LamX PfT HandSPX PyProof.Rows
section
variable {prog : Program} {w : World} {A : Around} {E : Value → Shared → Prop} {s : Shared} {K : PySem.W.Frag} {x C f : Addr} {ox : Obj} {od : Option Obj} {b : Value}
end
section
variable {X : Cx} {CX : CXT} {n : Nat} {C g : Addr} {sp : Sp} {E : XK}
end
section
variable {K : PySem.W.Frag} {C : Addr} {E : XK} {Pre : List D → Prop} {Post : List D → D → Prop} {P : D → Prop} {fs : List (Str × D)} {y : D} {neg : Bool}
end
section
variable {F : Fm} {δ : List SD} {te : TE} {ta : TA} {P : D → Prop} {C : Addr} {m : Str} {Pre : List D → Prop} {Post : List D → D → Prop} {PX : List D → Addr → List (Str × D) → Prop} {QX : Addr → List (Str × D) → Prop}
end
/-! x is True, whatever x is -/
/-! x.m(k = v, ..) -/
section
variable {F : Fm} {δ : List SD} {te : TE} {tk : TA} {P : D → Prop} {C : Addr} {m : Str} {n : Nat} {gV : List V → List V → List V} {gD : List D → List D → List D} {Pre : List D → Prop} {Post : List D → D → Prop} {PX : List D → Addr → List (Str × D) → Prop} {QX : Addr → List (Str × D) → Prop}
end
/-- no error comes: wherever none may pass -/
theorem passN {X : Cx} : Passes (L2.CX X.prog X.w) X (fun _ _ _ => False) := fun _ _ _ _ _ _ _ h => by
  obtain ⟨_, _, _, _, _, _, _, _, _, _, _, _, h⟩ := h
  exact h.elim
end Pf

/-! CoreZ6: C.m(..), m a static method of the class at C. -/
namespace Pf
open PySem L2 PfL LamX PfT HandSPX PyProof.Rows ClX
/-- C.m is a static method: its record at p, its def at g -/
structure SMet (K : PySem.W.Frag) (C : Addr) (mc : Value) (m : Str) (p g : Addr) : Prop where
  at_ : PySem.W.findCls K (.ref C) mc m = some (.get (.builtin "staticmethod.__get__") (.ref p) .none (.ref C))
  rc : ∃ rest, PySem.W.recIn K p "staticmethod" = some (.ref g :: rest)
  kp : PySem.W.keepIn K (.ref g) = true
section
variable {X : Cx} {CX : CXT} {k n : Nat} {C p g : Addr} {fd : FuncData} {ps ks : List Str} {dvs : List V} {ds : List Value} {mc : Value} {sp : Sp} {E : XK} {o e : Expr} {es : List Expr} {kws : List Keyword} {m : Str} {pos apos : Pos} {ta : TE} {t tk : TA} {pl : Sem Bool} {g' : List Value → List Value → List Value} {gV : List V → List V → List V}
end
section
variable {F : Fm} {δ : List SD} {te : TE} {ta tk : TA} {P : D → Prop} {C : Addr} {n m : Nat} {gV : List V → List V → List V} {gD : List D → List D → List D} {Pre : List D → Prop} {Post : List D → D → Prop} {PX : List D → Addr → List (Str × D) → Prop} {QX : Addr → List (Str × D) → Prop}
end
/-! x | y and the like, of two instances of one class, by a def of its own -/
theorem units65 {k : Nat} {A : Around} (r : Room k A) : A.units + 65 < cLine := by
  have := r.un
  omega
end Pf

/-! CoreW0: defs with *args that may raise; methods asked by a promise of their values alone. -/
namespace Pf
open PySem L2 PfL LamX PfT HandSPX PyProof.Rows
def starD (n : Nat) (ds : List D) : List D := ds.take n ++ [.tup (ds.drop n)]
def preS (n : Nat) (Pre : List D → Prop) : List D → Prop := fun ds => n ≤ ds.length ∧ ds.length ≤ 1000 ∧ Pre (starD n ds)
section
variable {P : Program} {w : World} {K : PySem.W.Frag} {mg : Str → Option Value} {base : Heap} {k n : Nat} {Pre : List D → Prop} {Post : List D → D → Prop} {PX : List D → Addr → List (Str × D) → Prop}
end
section
variable {F : Fm} {δ : List SD} {te ta tb : TE} {PX : List D → Prop}
end
end Pf

/-! CoreW1: min of a tuple of ints, t * n from n = 1 on. -/
namespace Pf
open PySem PySem.Spec L2 PfL LamX PfT HandSPX PyProof.Rows
end Pf

/-! CoreW2: an __init__ of data that may raise, with keywords and defaults; x not in a tuple of texts, x anything. -/
namespace Pf
open PySem PySem.Spec L2 PfL LamX PfT HandSPX PyProof.Rows
section
variable {K : PySem.W.Frag} {N : List Str} {vs : List V} {H : Hp} {Q : VK} {E : XK} {t : TS} {C : Addr} {Pre : List D → Prop} {Post : List D → List (Str × D) → Prop} {PX : List D → Addr → List (Str × D) → Prop}
end
section
variable {F : Fm} {δ : List SD} {ta tk : TA} {P : D → Prop} {C : Addr} {Pre : List D → Prop} {Post : List D → List (Str × D) → Prop} {PX : List D → Addr → List (Str × D) → Prop} {QX : Addr → List (Str × D) → Prop}
end
/-! x not in a tuple of texts -/
end Pf

/-! CoreW3: C.m(k = v, ..), m a static method. -/
namespace Pf
open PySem L2 PfL LamX PfT HandSPX PyProof.Rows ClX
end Pf

/-! CoreW4: defs beside the law that make lambdas: their tables, their promises. -/
namespace Pf
open PySem L2 PfL LamX PfT HandSPX PyProof.Rows ClX
/-! ### a def that makes lambdas, asked by a frame that knows its table -/
section
variable {F : Fm} {δ : List SD} {ta : TA} {Pd : D → Prop} {Pre : List D → Prop} {Post : List D → D → Prop} {E : XK} {P : Addr} {q : Str}
end
section
variable {K : PySem.W.Frag} {N : List Str} {vs : List V} {H : Hp} {Q : VK} {E : XK} {t : TS} {Pre : List D → Prop} {Post : List D → D → Prop} {P : Addr} {q : Str}
end
/-! ### the law's frame, with more than one table -/
end Pf

/-! CoreW5: index in a tuple of ints (the call alone: finding the method wants dict = none, which HO.tup does not tell), min and max of two ints. -/
namespace Pf
open PySem PySem.Spec L2 PfL LamX PfT HandSPX PyProof.Rows
/-! min(a, b), max(a, b) of two ints -/
section
variable {P : D → Prop} {K : PySem.W.Frag}
end
end Pf

/-! CoreW6: a dict comprehension. -/
namespace Pf
open PySem PySem.Spec L2 PfL LamX PfT HandSPX PyProof.Rows
section
variable {J : _} {n : Nat} {G : Hp → Prop} {Y : _}
end
section
variable {F : Fm} {δ : List SD} {tk tv : TE} {tt : TT} {P : D → Prop} {PX : List D → Prop} {g : TG} {wi : TI}
end
end Pf

/-! CoreW7: pairs of a number and a text, sorted. -/
namespace Pf
open PySem PySem.Spec L2 PfL LamX PfT HandSPX PyProof.Rows
def gD (p : Int × Str) : D := .tup [.int p.1, .str p.2]
end Pf

/-! CoreW8: a comprehension over the items of a dict of one's own (locked meanwhile). -/
namespace Pf
open PySem PySem.Spec L2 PfL LamX PfT HandSPX
theorem RepK.getV {K : PySem.W.Frag} {H : Hp} : ∀ {vs : List (Key × V)} {ds : List (Key × D)} {n : Nat} {k : Key} {w : V}, RepK K H vs ds → vs[n]? = some (k, w) → ∃ d, ds[n]? = some (k, d) ∧ Rep K H w d
  | _, _, _, _, _, .nil, h => by simp at h
  | _, _, 0, k, w, .cons r rs, h => by
    simp only [List.getElem?_cons_zero, Option.some.injEq, Prod.mk.injEq] at h
    obtain ⟨rfl, rfl⟩ := h
    exact ⟨_, rfl, r⟩
  | _, _, n + 1, k, w, .cons r rs, h => by
    obtain ⟨d, h1, h2⟩ := RepK.getV rs (n := n) (by simpa using h)
    exact ⟨d, by simpa using h1, h2⟩
section
variable {F : Fm} {M : Addr → Bool} {σ : L2.St} {H : Hp} {δ : List SD}
end
end Pf

/-! CoreW9: len of a dict; a tuple gone through where a list may stand. -/
namespace Pf
open PySem PySem.Spec L2 PfL LamX PfT HandSPX
end Pf

/-! CoreW10: d[k] of a dict of one's own. -/
namespace Pf
open PySem PySem.Spec L2 PfL LamX PfT HandSPX
end Pf

/-! CoreW11: a, b = x, a new list, by way of the tuple (where a name is a cell). -/
namespace Pf
open PySem PySem.Spec L2 PfL LamX PfT HandSPX
end Pf

/-! CoreW12: a new list of new lists, read for a while, one of its items then changed. -/
namespace Pf
open PySem PySem.Spec L2 PfL LamX PfT HandSPX
/-- the frame that begins behind: what stands then is its own heap -/
def Fm.at (F : Fm) (M : Addr → Bool) (H : Hp) : Fm := ⟨F.K, F.B, M, H, F.E, F.C0, F.T⟩
/-- what is known of a list of new lists that the frame F makes, the later frame being F.at M2 H2 -/
structure Gh (F : Fm) (M2 : Addr → Bool) (H2 : Hp) (p : Addr) (qs : List (Addr × List D)) : Prop where
  al0 : ∀ a, F.M0 a = true → ∃ o, F.H0 a = some o
  m0 : ∀ a, F.M0 a = true → M2 a = true
  fr : StepB F.mv F.H0 H2
  bg : (∀ b, F.B = some b → F.M0 b = true ∧ ∃ o, F.H0 F.C0 = some o) ∧ ∀ t ∈ F.T, F.M0 t.1 = true
  nw : ∀ a ∈ p :: qs.map Prod.fst, M2 a = false ∧ F.H0 a = none ∧ ¬ F.mv a
  nd : (p :: qs.map Prod.fst).Nodup
def okS : SD → Bool
  | .un => true
  | .dat _ => true
  | .bag => true
  | .own _ _ => true
  | _ => false
section
variable {F : Fm} {M2 M : Addr → Bool} {H2 H : Hp} {σ : L2.St} {δ δ' : List SD} {p : Addr} {qs : List (Addr × List D)}
/-- back to the first frame -/
theorem Gh.back (g : Gh F M2 H2 p qs) (c : Ctx (F.at M2 H2) M σ H δ) (hl : δ'.length = δ.length) (hs : ∀ (i : Nat) (x : SD), δ'[i]? = some x → x = .un ∨ (okS x = true ∧ δ[i]? = some x)) : Ctx F M σ H δ' := by
  have fr2 : StepB F.mv H2 H := c.fr
  have h0 : ∀ a, H2 a = none → F.H0 a = none ∨ F.mv a := fun a h => by
    by_cases m : F.mv a
    · exact .inr m
    · left
      cases z : F.H0 a with
      | none => rfl
      | some o =>
        have := g.fr a o m z
        rw [h] at this
        cases this
  refine ⟨c.al, g.al0, fun a m => c.m0 a (g.m0 a m), g.fr.trans fr2, ⟨fun b z => ⟨(g.bg.1 b z).1, (c.bg.1 b z).2.1, (g.bg.1 b z).2⟩, fun t ht => ⟨g.bg.2 t ht, (c.bg.2 t ht).2⟩⟩, by rw [c.ln, hl], fun i x hx => ?_, fun i j x y q h1 h2 hp hq => ?_, fun i x q h hp => ?_⟩
  · rcases hs i x hx with rfl | ⟨ok, h⟩
    · have : i < σ.length := by
        have := (List.getElem?_eq_some_iff.mp hx).1
        rw [c.ln, ← hl]
        exact this
      exact ⟨σ[i], by simp [this], trivial⟩
    · obtain ⟨s, h1, h2⟩ := c.sl i x h
      refine ⟨s, h1, ?_⟩
      cases x with
      | un => trivial
      | dat d => exact h2
      | own q ds => exact h2
      | bag => exact h2
      | sq ds => cases ok
      | sl ds => cases ok
      | oll q rs => cases ok
      | sto d Ω => cases ok
      | stR d Ω => cases ok
  · rcases hs i _ h1 with z | ⟨_, h1⟩
    · subst z; cases hp
    rcases hs j _ h2 with z | ⟨_, h2⟩
    · subst z; cases hq
    exact c.dj i j x y q h1 h2 hp hq
  · rcases hs i _ h with z | ⟨_, h⟩
    · subst z; cases hp
    obtain ⟨h1, h2⟩ := c.oh i x q h hp
    refine ⟨?_, h2⟩
    rcases h0 q h1 with z | z
    · exact z
    · exact absurd z h2
end
section
variable {F : Fm} {M2 : Addr → Bool} {H2 : Hp} {δ : List SD} {p : Addr} {qs : List (Addr × List D)} {t u : TS} {R : PD} {te : TE} {P : D → Prop}
end
/-! ### new lists, side by side -/
/-- what is hidden behind is what was, and the new ones -/
structure News (F : Fm) (M : Addr → Bool) (H : Hp) (δ : List SD) (M' : Addr → Bool) (H' : Hp) (qs : List (Addr × List D)) : Prop where
  le : ∀ a, M a = true → M' a = true
  ge : ∀ a, M' a = true → M a = true ∨ a ∈ qs.map Prod.fst
  nw : ∀ q ∈ qs, M' q.1 = true ∧ H q.1 = none ∧ F.H0 q.1 = none ∧ ¬ F.mv q.1 ∧ ∃ us, H' q.1 = some (.lst us) ∧ RepL F.K (hd M' H') us q.2
  nd : (qs.map Prod.fst).Nodup
section
variable {F : Fm} {δ : List SD} {te : TE} {ta tr : TA} {u : TS} {R : PD} {P : List (List D) → Prop}
end
end Pf

/-! CoreW13: texts taken apart and put together; a starred display, a starred target; pop. -/
namespace Pf
open PySem PySem.Spec L2 PfL LamX PfT HandSPX PyProof.Rows StX
/-! str of a number or a text; int of a text -/
section
variable {K : PySem.W.Frag} {P : D → Prop}
end
/-! methods of texts -/
section
variable {F : Fm} {δ : List SD} {te tb : TE} {tr : TA} {P : D → Prop} {PL : List D → Prop} {PA : List D → Prop} {R : PD}
end
/-! a, b, *c = a list -/
end Pf

/-! CoreW14: enumerate of a list from a start on. -/
namespace PySem
end PySem
namespace Pf
open PySem L2 RZ PySem.Spec PyProof.Rows
section
variable {M : Model} {A : Around} {E : Value → Shared → Prop} {s : Shared} {env : Env}
end
end Pf

/-! CoreW15: data alike compared by <; an item of a list of one's own. -/
namespace Pf
open PySem PySem.Spec L2 PfL LamX PfT HandSPX PyProof.Rows
end Pf

/-! CoreW16: a lambda that captures a comprehension's own name, asked there. -/
namespace PfL
open PySem PySem.Spec PyProof.Rows L2 LamX HandSPX
section
variable {X : Cx}
open Classical in
end
end PfL
namespace Pf
open PySem PySem.Spec L2 PfL LamX PfT HandSPX PyProof.Rows
end Pf

/-! CoreW17: a text so many times; an item of a list of one's own is stored. -/
namespace PfL
open PySem PySem.Spec PyProof.Rows L2 LamX HandSPX
end PfL
namespace Pf
open PySem PySem.Spec L2 PfL LamX PfT HandSPX PyProof.Rows
end Pf

/-! CoreJ0: dicts whose keys are nested tuples: in, d[k], d[k] = v, {}, sorted(d). -/
namespace PfJ
open PySem PySem.Spec L2 PySem.W Pf PyProof.Rows PySem.Calls
/-! ### the value is the key -/
section
variable {X : Cx} {pins : List (Addr × Obj)} {σ : L2.St} {H : Hp} {s : Shared}
mutual
theorem rep_nk (I : Inv X pins σ H s) : ∀ (k : NestedKey) (v : V) (u : Value), Rep X.K H v (nkD k) → RelV v u → NestedIs s.heap k u
  | .none, v, u, r, h => by
    rw [nkD] at r
    cases r
    obtain rfl : u = Value.none := h
    exact .none
  | .num i, v, u, r, h => by
    rw [nkD] at r
    cases r
    obtain ⟨t, rfl⟩ := h
    exact .int i t
  | .text x, v, u, r, h => by
    rw [nkD] at r
    cases r
    obtain ⟨t, rfl⟩ := h
    exact .text x t
  | .tup ks, v, u, r, h => by
    rw [nkD] at r
    cases r with
    | tup hs hr =>
      obtain rfl := (show u = Value.ref _ from h)
      obtain ⟨its, rv, ⟨o, ho, hc, n, hd⟩, _⟩ := I.tuple hs
      exact .tup ho hc hd (by simpa using rep_nks I ks _ _ hr rv)
theorem rep_nks (I : Inv X pins σ H s) : ∀ (ks : List NestedKey) (vs : List V) (us : List Value), RepL X.K H vs (nkDs ks) → Vals vs us → NestedAll s.heap ks us
  | [], vs, us, r, h => by
    rw [nkDs] at r
    cases r
    cases h
    exact .nil
  | k :: ks, vs, us, r, h => by
    rw [nkDs] at r
    cases r with
    | cons r1 r2 =>
      cases h with
      | cons h1 h2 => exact .cons (rep_nk I k _ _ r1 h1) (rep_nks I ks _ _ r2 h2)
end
end
/-! ### the dict -/
abbrev NRel : List (NE V) → List (NE Value) → Prop := Paired fun (p : NE V) (q : NE Value) => p.1 = q.1 ∧ p.2.1 = q.2.1 ∧ RelV p.2.2 q.2.2
def atNV (xs : List (NE V)) (k : NestedKey) : Option V := (xs.find? fun x => decide (x.1 = k)).map (·.2.2)
def putNV (xs : List (NE V)) (k : NestedKey) (b : Addr) (v : V) : List (NE V) :=
  if (atNV xs k).isSome then xs.map (fun x => if x.1 = k then (x.1, x.2.1, v) else x) else xs ++ [(k, b, v)]
theorem nrel_at : ∀ {xs : List (NE V)} {us : List (NE Value)} (k : NestedKey), NRel xs us → RelO (atNV xs k) ((atKey us k).map (·.2))
  | [], [], k, .nil => trivial
  | x :: xs, u :: us, k, .cons h t => by
    by_cases e : x.1 = k
    · have e2 : u.1 = k := by rw [← h.1]; exact e
      simp [atNV, atKey, e, e2, RelO]
      exact h.2.2
    · have e2 : ¬ u.1 = k := by rw [← h.1]; exact e
      have e3 : atNV (x :: xs) k = atNV xs k := by simp [atNV, List.find?_cons, e]
      have e4 : atKey (u :: us) k = atKey us k := by simp [atKey, List.find?_cons, e2]
      rw [e3, e4]
      exact nrel_at k t
theorem nrel_some {xs : List (NE V)} {us : List (NE Value)} (k : NestedKey) (h : NRel xs us) : (atKey us k).isSome = (atNV xs k).isSome := by
  have := nrel_at k h
  cases e1 : atNV xs k <;> cases e2 : atKey us k <;> simp [e1, e2, RelO] at this ⊢
theorem nrel_map {k : NestedKey} {v : V} {r : Value} (rv : RelV v r) : ∀ {xs : List (NE V)} {us : List (NE Value)}, NRel xs us → NRel (xs.map fun x => if x.1 = k then (x.1, x.2.1, v) else x) (us.map (putAt k r))
  | [], [], .nil => .nil
  | x :: xs, u :: us, .cons h t => by
    rw [List.map_cons, List.map_cons]
    refine .cons ?_ (nrel_map rv t)
    by_cases e : x.1 = k
    · have e2 : u.1 = k := by rw [← h.1]; exact e
      rw [if_pos e, putAt, if_pos e2]
      exact ⟨h.1, h.2.1, rv⟩
    · have e2 : ¬ u.1 = k := by rw [← h.1]; exact e
      rw [if_neg e, putAt, if_neg e2]
      exact h
theorem paired_append {α β : Type} {R : α → β → Prop} : ∀ {xs ys : List α} {us ws : List β}, Paired R xs us → Paired R ys ws → Paired R (xs ++ ys) (us ++ ws)
  | _, _, _, _, .nil, s => s
  | _, _, _, _, .cons r t, s => .cons r (paired_append t s)
theorem nrel_put {xs : List (NE V)} {us : List (NE Value)} {k : NestedKey} {b : Addr} {v : V} {r : Value} (h : NRel xs us) (rv : RelV v r) : NRel (putNV xs k b v) (storedH us k b r) := by
  unfold putNV storedH
  rw [nrel_some k h]
  split
  · exact nrel_map rv h
  · exact paired_append h (.cons ⟨rfl, rfl, rv⟩ .nil)
theorem putN_len {xs : List (NE V)} {k : NestedKey} {b : Addr} {v : V} : (putNV xs k b v).length ≤ xs.length + 1 := by
  unfold putNV
  split
  · rw [List.length_map]; omega
  · rw [List.length_append]; simp
/-- the keys' tuples stand -/
def KeysN (K : PySem.W.Frag) (H : Hp) (xs : List (NE V)) : Prop := ∀ x ∈ xs, x.1.depth ≤ 8 ∧ Rep K H (.ref x.2.1) (nkD x.1)
/-- what is known of the dict -/
structure NDict (K : PySem.W.Frag) (w : World) (H : Hp) (a : Addr) (xs : List (NE V)) : Prop where
  at_ : H a = some (HDn w a xs)
  keys : KeysN K H xs
/-- b bears the key k -/
structure NKey (K : PySem.W.Frag) (H : Hp) (b : Addr) (k : NestedKey) : Prop where
  dep : k.depth ≤ 8
  rep : Rep K H (.ref b) (nkD k)
section
variable {X : Cx} {pins : List (Addr × Obj)} {σ : L2.St} {H : Hp} {s : Shared} {a b : Addr} {xs : List (NE V)} {k : NestedKey}
theorem NKey.is (I : Inv X pins σ H s) (n : NKey X.K H b k) : (nestedKind X.prog X.w).is s.heap k b := ⟨rep_nk I k _ _ n.rep rfl, n.dep⟩
theorem NDict.of (I : Inv X pins σ H s) (n : NDict X.K X.w H a xs) : xs.length ≤ sizeLine ∧ (a == sysModules) = false ∧ ∃ us, NRel xs us ∧ s.heap.DictOfH (nestedKind X.prog X.w) a us := by
  have h := I.hok a _ n.at_
  unfold HDn at h
  obtain ⟨⟨z, hd, us, rel, o, es, ep, h1, h2, h3, h4, h5⟩, _, _⟩ := h
  refine ⟨z, hd, us, rel, o, es, ep, h1, h2, h3, h4, fun u hu => ?_, h5⟩
  obtain ⟨i, hi, e⟩ := List.mem_iff_getElem.mp hu
  have hl : xs.length = us.length := Paired.length rel
  have key : ∀ {xs : List (NE V)} {us : List (NE Value)}, NRel xs us → ∀ u ∈ us, ∃ x ∈ xs, x.1 = u.1 ∧ x.2.1 = u.2.1 := fun {xs us} r => by
    induction r with
    | nil => intro u hu; cases hu
    | cons h t ih =>
      intro u hu
      rcases List.mem_cons.mp hu with rfl | hu
      · exact ⟨_, List.mem_cons_self, h.1, h.2.1⟩
      · obtain ⟨x, hx, e⟩ := ih u hu
        exact ⟨x, List.mem_cons_of_mem _ hx, e⟩
  obtain ⟨x, hx, e1, e2⟩ := key rel u hu
  obtain ⟨d, r⟩ := n.keys x hx
  rw [← e1, ← e2]
  exact NKey.is I ⟨d, r⟩
theorem hdn_ok {P : Program} {w : World} {H' : Hp} {h : Heap} {us : List (NE Value)} (z : xs.length ≤ sizeLine) (hd : (a == sysModules) = false) (rel : NRel xs us) (dd : h.DictOfH (nestedKind P w) a us) : ObjOk P w H' h a (HDn w a xs) := by
  obtain ⟨o, es, ep, h1, h2, h3, h4, _, h5⟩ := dd
  refine ⟨⟨z, hd, us, rel, o, es, ep, h1, h2, h3, h4, h5⟩, ⟨o, h1⟩, ?_⟩
  rintro g1 g2 ⟨z, hd, us, rel, o, es, ep, h1, h2, h3, h4, h5⟩ e
  exact ⟨z, hd, us, rel, o, es, ep, e o h1, h2, h3, h4, h5⟩
end
/-! ### terms and rules -/
/-- d[y] = v -/
def sNPut (K : PySem.W.Frag) (w : World) (td ty tv : TE) : TS := fun D σ H => tv σ H fun v H1 => td σ H1 fun x H2 => ty σ H2 fun y H3 => ∃ a b k xs, x = .ref a ∧ y = .ref b ∧ NKey K H3 b k ∧ NDict K w H3 a xs ∧ xs.length < sizeLine ∧ D.nx σ (upd H3 a (HDn w a (putNV xs k b v)))
/-- {} -/
def tNNew (w : World) : TE := fun _ H Q => ∀ p, H p = none → Q (.ref p) (upd H p (HDn w p []))
section
variable {X : Cx} {o i value : Expr} {pos pos' : Pos} {td ty tv : TE}
theorem room_n {A : Around} (hu : A.units + 64 < cLine) : (A.in1).units + 8 < cLine := by rw [Around.in1_units]; omega
theorem ps_nput (hu : X.A.units + 64 < cLine) (ho : PE X o td) (hi : PE X i ty) (hv : PE X value tv) (hs : swapsWith value (some (.Subscript o i pos')) pos.line X.env = pure false) :
    PS X (.Assign [.Subscript o i pos'] value pos) (sNPut X.K X.w td ty tv) := by
  refine ⟨fun pins s σ H D I h => ?_⟩
  refine wpAny_Assign_Subscript (thn (hv.run pins s σ H _ I h) fun r s1 ⟨v, H1, I1, rv, q1⟩ => thn (ho.run pins s1 σ H1 _ I1 q1) fun u s2 ⟨x, H2, I2, rx, q2⟩ => thn (hi.run pins s2 σ H2 _ I2 q2) fun iv s3 ⟨y, H3, I3, ry, a, b, k, xs, ex, ey, nk, nd, hz, q3⟩ => ?_) hs
  subst ex ey
  obtain rfl : u = Value.ref a := rx
  obtain rfl : iv = Value.ref b := ry
  obtain ⟨z, hd, us, rel, dd⟩ := nd.of I3
  have hl : (putNV xs k b v).length ≤ sizeLine := Nat.le_trans putN_len hz
  refine wpAny_setItem_heap (knd := nestedKind X.prog X.w) (hsz := by rw [← Paired.length rel]; exact z) (room_n hu) (nk.is I3) dd fun h' dd' hs => ?_
  have he : ∃ q, h'.get? a = some q := let ⟨q, _, _, hq, _⟩ := dd'; ⟨q, hq⟩
  exact ⟨σ, _, d_write I3 (by rw [nd.at_]; exact True.intro) hs he (hdn_ok hl hd (nrel_put rel rv) dd'), q3⟩
theorem pe_nnew : PE X (.Dict [] [] pos) (tNNew X.w) := ⟨fun pins s σ H Q I h =>
  wpAny_Dict_empty ⟨.ref s.heap.objs.size, _, I.laid (a := s.heap.objs.size) (o := HDn X.w s.heap.objs.size []) (t' := s.toks) (fun _ _ q => Heap.get?_push_of_some _ q) (Nat.le_refl _)
    (hdn_ok (P := X.prog) (us := []) (Nat.zero_le _) (beq_eq_false_iff_ne.mpr (Ne.symm (Nat.ne_of_lt I.big))) .nil (Heap.DictOfH.new s.heap)), rfl, h _ (I.hok.fresh (Nat.le_refl _))⟩⟩
end
end PfJ

/-! CoreJ1: dicts with nested keys, on data. -/
namespace PfJ
open PySem PySem.Spec L2 PySem.W Pf PyProof.Rows PySem.Calls
def valND (kvs : List (NestedKey × D)) (k : NestedKey) : Option D := (kvs.find? fun x => decide (x.1 = k)).map (·.2)
def putND (kvs : List (NestedKey × D)) (k : NestedKey) (d : D) : List (NestedKey × D) :=
  if (valND kvs k).isSome then kvs.map (fun x => if x.1 = k then (x.1, d) else x) else kvs ++ [(k, d)]
theorem putND_new {kvs : List (NestedKey × D)} {k : NestedKey} {d : D} (h : valND kvs k = none) : putND kvs k d = kvs ++ [(k, d)] := by unfold putND; rw [h]; rfl
theorem valN_none {kvs : List (NestedKey × D)} {k : NestedKey} : valND kvs k = none ↔ k ∉ kvs.map (·.1) := by
  unfold valND
  rw [Option.map_eq_none_iff, List.find?_eq_none]
  constructor
  · intro h hk
    obtain ⟨x, hx, e⟩ := List.mem_map.mp hk
    exact h x hx (decide_eq_true e)
  · intro h x hx e
    exact h (List.mem_map.mpr ⟨x, hx, of_decide_eq_true e⟩)
end PfJ
namespace Pf
open PySem PySem.Spec L2 PySem.W PfJ
section
variable {K : PySem.W.Frag} {H : Hp}
theorem RepN.keys : ∀ {xs : List (NE V)} {ds : List (NestedKey × D)}, RepN K H xs ds → KeysN K H xs
  | [], [], .nil => fun x h => nomatch h
  | _ :: _, _ :: _, .cons z r1 r2 r3 => fun x h => by
    rcases List.mem_cons.mp h with rfl | h
    · exact ⟨z, r1⟩
    · exact RepN.keys r3 x h
theorem RepN.length : ∀ {xs : List (NE V)} {ds : List (NestedKey × D)}, RepN K H xs ds → xs.length = ds.length
  | [], [], .nil => rfl
  | _ :: _, _ :: _, .cons _ _ _ r => congrArg Nat.succ (RepN.length r)
theorem RepN.val : ∀ {xs : List (NE V)} {ds : List (NestedKey × D)} (k : NestedKey), RepN K H xs ds → (valND ds k = none → atNV xs k = none) ∧ ∀ d, valND ds k = some d → ∃ v, atNV xs k = some v ∧ Rep K H v d
  | [], [], k, .nil => ⟨fun _ => rfl, fun d h => by simp [valND] at h⟩
  | (k0, b0, v0) :: xs, (_, d0) :: ds, k, .cons z r1 h r => by
    by_cases e : k0 = k
    · subst e
      refine ⟨fun h => by simp [valND] at h, fun d hd => ⟨v0, by simp [atNV], ?_⟩⟩
      have : d0 = d := by simpa [valND] using hd
      rw [← this]
      exact h
    · have e1 : atNV ((k0, b0, v0) :: xs) k = atNV xs k := by simp [atNV, List.find?_cons, e]
      have e2 : valND ((k0, d0) :: ds) k = valND ds k := by simp [valND, List.find?_cons, e]
      rw [e1, e2]
      exact RepN.val k r
theorem RepN.some {xs : List (NE V)} {ds : List (NestedKey × D)} (k : NestedKey) (r : RepN K H xs ds) : (atNV xs k).isSome = (valND ds k).isSome := by
  obtain ⟨g1, g2⟩ := r.val k
  cases z : valND ds k with
  | none => rw [g1 z]; rfl
  | some d =>
    obtain ⟨v, g3, _⟩ := g2 d z
    rw [g3]
    rfl
theorem RepN.snoc {k : NestedKey} {b : Addr} {v : V} {d : D} (z : k.depth ≤ 8) (rk : Rep K H (.ref b) (nkD k)) (rv : Rep K H v d) : ∀ {xs : List (NE V)} {ds : List (NestedKey × D)}, RepN K H xs ds → RepN K H (xs ++ [(k, b, v)]) (ds ++ [(k, d)])
  | [], [], .nil => .cons z rk rv .nil
  | _ :: _, _ :: _, .cons z' r1 r2 r => .cons z' r1 r2 (RepN.snoc z rk rv r)
theorem RepN.repl {k : NestedKey} {v : V} {d : D} (rv : Rep K H v d) : ∀ {xs : List (NE V)} {ds : List (NestedKey × D)}, RepN K H xs ds → RepN K H (xs.map fun x => if x.1 = k then (x.1, x.2.1, v) else x) (ds.map fun x => if x.1 = k then (x.1, d) else x)
  | [], [], .nil => .nil
  | (k0, b0, v0) :: _, (_, d0) :: _, .cons z r1 r2 r => by
    rw [List.map_cons, List.map_cons]
    by_cases e : k0 = k
    · simp only [e, if_true]
      exact .cons (e ▸ z) (e ▸ r1) rv (RepN.repl rv r)
    · simp only [e, if_false]
      exact .cons z r1 r2 (RepN.repl rv r)
theorem RepN.put {k : NestedKey} {b : Addr} {v : V} {d : D} {xs : List (NE V)} {ds : List (NestedKey × D)} (z : k.depth ≤ 8) (rk : Rep K H (.ref b) (nkD k)) (rv : Rep K H v d) (r : RepN K H xs ds) : RepN K H (putNV xs k b v) (putND ds k d) := by
  unfold putNV putND
  rw [RepN.some k r]
  split
  · exact RepN.repl rv r
  · exact RepN.snoc z rk rv r
end
end Pf
namespace PfJ
open PySem PySem.Spec L2 PySem.W Pf PyProof.Rows PySem.Calls
/-- the tuple of these items is a key -/
def KeyD (y : D) (k : NestedKey) : Prop := y = nkD k ∧ k.depth ≤ 8 ∧ ∃ ks, k = .tup ks
theorem keyD_rep {K : PySem.W.Frag} {H : Hp} {v : V} {y : D} {k : NestedKey} (h : KeyD y k) (r : Rep K H v y) : ∃ b, v = .ref b ∧ Rep K H (.ref b) (nkD k) := by
  obtain ⟨rfl, _, ks, rfl⟩ := h
  have r0 := r
  rw [nkD] at r
  cases r with
  | tup h1 h2 => exact ⟨_, rfl, r0⟩
section
variable {F : Fm} {w : World} {δ : List SD} {te tv td ty : TE} {P : D → Prop} {R : PD} {tt : TT}
theorem do_ownDicN {i : Nat} (h : ∀ p, R.nx (δ.set i (.own p (.dicN w [])))) : Do F (tAsg (tNNew w) (gName i)) δ R := fun M σ H E c a b k d => by
  intro p hp
  refine a (hid M p) _ _ _ (h p) ((c.hide hp (o := HDn w p []) (fun c q => HDn_code)).setOwn i hid_same upd_same (.dicN .nil) (c.h0 hp) (c.nob hp) fun j x _ => c.nown hp j x) fun x o hx => ?_
  obtain ⟨m, h1⟩ := hd_of hx
  have n : x ≠ p := ne_of_none h1 hp
  exact hd_at (by rw [hid_ne n]; exact m) (by rw [upd_ne n]; exact h1)
theorem do_nput {i : Nat} {p : Addr} {kvs : List (NestedKey × D)} (hi : δ[i]? = some (.own p (.dicN w kvs))) (hl : kvs.length < 100000) (h : Ev F tv δ fun v => Ev F ty δ fun y => ∃ k, KeyD y k ∧ R.nx (δ.set i (.own p (.dicN w (putND kvs k v))))) :
    Do F (sNPut F.K w (tVar i) ty tv) δ R := fun M σ H E c a b k d => by
  refine h M σ H _ c fun v x H1 p1 c1 e1 r1 => ?_
  obtain ⟨s, hs, e, m, ho, hp, rr⟩ := c1.sl i _ hi
  subst e
  refine ⟨_, hs, ?_⟩
  refine p1 M σ H1 _ c1 fun w2 y H2 p2 c2 e2 r2 => ?_
  obtain ⟨k0, hk, p2⟩ := p2
  obtain ⟨b, rfl, rk⟩ := keyD_rep hk r2
  obtain ⟨s', hs', e', m', ho', hp', rr'⟩ := c2.sl i _ hi
  rw [hs] at hs'
  cases hs'
  cases rr' with
  | @dicN _ xs _ rr' =>
    refine ⟨p, b, k0, xs, rfl, rfl, ⟨hk.2.1, rk.mono (same_hd M H2)⟩, ⟨hp', fun x hx => ⟨(rr'.keys x hx).1, (rr'.keys x hx).2.mono (same_hd M H2)⟩⟩, by rw [rr'.length]; exact sz_lt hl, ?_⟩
    refine a M σ _ _ p2 (c2.put hi (.dicN (rr'.put hk.2.1 rk (r1.mono (hd_step c1 e2))))) ?_
    rw [hd_upd m]
    exact (hd_step c e1).trans (hd_step c1 e2)
end
end PfJ

/-! CoreJ2: sorted of a dict with nested keys. -/
namespace PfJ
open PySem L2 RZ PySem.Spec PyProof.Rows PySem.W PySem.Calls Pf
theorem collect_src {prog : Program} {w : World} {A : Around} {E : Value → Shared → Prop} {s : Shared} {T : String} {r d : Addr} {n : Nat} {P : Nat → Value → Prop} {OK : Heap → Prop} {Q : List Value → Shared → Prop} (K : KdlSrc prog w T r d n P OK) (hh : A.handled = none) (hok : OK s.heap) (hn : n ≤ sizeLine)
    (hQ : ∀ h' tk (acc' : Array Value), (∀ b o, s.heap.get? b = some o → h'.get? b = some o) → ItemsOf P acc' n → Q acc'.toList { s with heap := h', toks := tk }) : wpAny (model prog w) A (collect (.ref r)) Q E s := by
  unfold collect
  refine wpAny_bind (wpAny_runValue (codeAny_builtin PySem.F.entry_proto_collect ?_))
  rw [Around.under_plainId PySem.F.plain_proto_collect _]
  show wpAny _ A.in1 (newList [] >>= fun l => again (.builtin "list.__iadd__" ⟨[l, .ref r], []⟩)) _ _ s
  refine wpAny_bind (wpAny_newObj_type ?_)
  refine wpAny_pure ⟨plainId_quiet PySem.F.plain_list_iadd _, codeAny_builtin PySem.F.entry_list_iadd ?_⟩
  rw [Around.under_plainId PySem.F.plain_list_iadd _]
  show wpAny _ A.in1 (Builtin.List.listExtendWith (.ref s.heap.objs.size) (.ref r) (.ref s.heap.objs.size)) _ _ _
  have hS : (s.heap.push { cls := .type "list", data := .seq ([] : List Value).toArray }).get? s.heap.objs.size = some { cls := .type "list", data := .seq #[] 0 } := Heap.get?_push_size _ rfl
  have hlt := K.there _ hok
  refine wpAny_mono (kdl_extend (A := A) (R := fun r' s' => ∃ h' tk acc' c', (∀ b o, s.heap.get? b = some o → h'.get? b = some o) ∧ h'.get? s.heap.objs.size = some { cls := .type "list", dict := none, data := .seq acc' c', slots := #[] } ∧ ItemsOf P acc' n ∧ r' = .ok (.ret (.ref s.heap.objs.size)) ∧ s' = { s with heap := h', toks := tk })
    (s := { s with heap := s.heap.push { cls := .type "list", data := .seq ([] : List Value).toArray } }) K hh (K.keep _ _ hok fun b _ o e => Heap.get?_push_of_some _ e) s.heap.objs.size (Nat.ne_of_gt hlt.1) (Nat.ne_of_gt hlt.2) (.ref s.heap.objs.size) 0 hS
    (fun h' tk acc' c' hk hS' hacc => ⟨h', tk, acc', c', fun b o e => hk b o (Nat.ne_of_lt (Heap.lt_size e)) (Heap.get?_push_of_some _ e), hS', hacc, rfl, rfl⟩) hn) (fun fin s' h => ?_) (fun e s' h => ?_)
  · have fin' : ∀ {r' : Result} {s' : Shared}, (∃ h' tk acc' c', (∀ b o, s.heap.get? b = some o → h'.get? b = some o) ∧ h'.get? s.heap.objs.size = some { cls := .type "list", dict := none, data := .seq acc' c', slots := #[] } ∧ ItemsOf P acc' n ∧ r' = .ok (.ret (.ref s.heap.objs.size)) ∧ s' = { s with heap := h', toks := tk }) →
        r' = .ok (.ret (.ref s.heap.objs.size)) ∧ wpAny (model prog w) A (match Value.ref s.heap.objs.size with
      | Value.ref a => do
        match (← load a).data with
          | Data.seq xs _ => pure xs.toList
          | _ => unsupported "internal:collect"
      | _ => unsupported "internal:collect") Q E s' := fun {r' s'} ⟨h', tk, acc', c', hk, hS', hacc, e1, e2⟩ => by
      subst e2
      refine ⟨e1, ?_⟩
      show wpAny _ A (load s.heap.objs.size >>= _) _ _ _
      exact wpAny_bind (wpAny_load hS' (wpAny_pure (hQ h' tk acc' hk hacc)))
    cases fin with
    | done f =>
      obtain ⟨e, h9⟩ := fin' h
      cases e
      exact h9
    | again c' =>
      refine ⟨h.1, codeAny_mono h.2 fun r s'' hr => ?_⟩
      obtain ⟨e, h9⟩ := fin' hr
      subst e
      exact h9
  · obtain ⟨_, _, _, _, _, _, _, e, _⟩ := h
    exact absurd e (by simp)
theorem sortC_core {prog : Program} {w : World} {A : Around} {E : Value → Shared → Prop} {s : Shared} {β : Type} {vs : List Value} {bs : List β} {enc : β → PyData} {R : Value → β → Prop} {l : Addr} {Q : Value → Shared → Prop}
    (hcol : ∀ (E' : Value → Shared → Prop) (Q' : List Value → Shared → Prop), (∀ h1 tk, (∀ b o, s.heap.get? b = some o → h1.get? b = some o) → Q' vs { s with heap := h1, toks := tk }) → wpAny (model prog w) A.in1 (collect (.ref l)) Q' E' s)
    (e : EachIs R vs bs) (er : EachIs (fun v b => ∃ as, Reads s.heap v (enc b) as) vs bs) (hal : AllAlike (bs.map enc)) (hk : Sortable (bs.map enc)) (hL : bs.length ≤ sizeLine)
    (hu : ∀ b, b ∈ bs → A.units + 2 + (enc b).depth < cLine)
    (h : ∀ (h1 h2 : Heap) (tk : Nat) (out : List Value) (ep : Nat), (∀ b o, s.heap.get? b = some o → h1.get? b = some o) → (∀ b o, h1.get? b = some o → h2.get? b = some o) → out.length = bs.length → EachIs R out (bs.mergeSort (dataLe false enc)) →
      h2.get? h1.objs.size = some (seqObj "list" out.toArray ep) → Q (.ref h1.objs.size) { s with heap := h2, toks := tk }) :
    wpAny (model prog w) A (call (.builtin "sorted") [.ref l]) Q E s := by
  have hlen : vs.length = bs.length := e.length
  refine call_function_entry_kw kind_sorted plain_sorted entry_sorted (args_sorted1 _) ?_
  unfold Builtin.«sorted»
  refine wpAny_bind (m := checkCount "sorted" 1 1 _) (wpAny_pure ?_)
  refine wpAny_bind (hcol _ _ fun h1 tk k1 => ?_)
  refine wpAny_bind (wpAny_newList ?_ (by rw [hlen]; exact hL))
  have hat : (h1.push (seqObj "list" vs.toArray 0)).get? h1.objs.size = some (seqObj "list" vs.toArray 0) := Heap.get?_push_size _ rfl
  have kp : ∀ b o, h1.get? b = some o → (h1.push (seqObj "list" vs.toArray 0)).get? b = some o := fun b o q => Heap.get?_push_of_some _ q
  show wpAny _ _ _ _ _ { s with heap := h1.push (seqObj "list" vs.toArray 0), toks := tk }
  refine wpAny_bind (wpAny_holding (wpAny_call_entry_kw slot_list_sort ⟨_, hat, rfl⟩ entry_list_sort ?body (args_list_sort _)))
  case body =>
    show wpAny (model prog w) A.in1.in1 (Builtin.«list.sort» ⟨[.ref h1.objs.size], []⟩) _ _ _
    have old : ∀ b o, h1.get? b = some o → (sortingHeap (h1.push (seqObj "list" vs.toArray 0)) h1.objs.size vs).get? b = some o := fun b o q =>
      sortingHeap_old (Nat.ne_of_lt (Heap.lt_size q)) (kp b o q)
    have er' : EachIs (fun v b => ∃ as, Reads (sortingHeap (h1.push (seqObj "list" vs.toArray 0)) h1.objs.size vs) v (enc b) as) vs bs := er.mono fun _ _ ⟨as, r⟩ => ⟨as, PyProof.Rows.Reads.keeps (fun b o q => old b o (k1 b o q)) r⟩
    refine list_sort_vals (κ := dataKind (sortingHeap (h1.push (seqObj "list" vs.toArray 0)) h1.objs.size vs) (bs.map enc)) (s := { s with heap := h1.push (seqObj "list" vs.toArray 0), toks := tk }) hat (SortsAt.data (s := { s with heap := sortingHeap (h1.push (seqObj "list" vs.toArray 0)) h1.objs.size vs, toks := tk }) (each_map (R := fun v d => ∃ as, Reads (sortingHeap (h1.push (seqObj "list" vs.toArray 0)) h1.objs.size vs) v d as) enc er') hal hk (bound_map hu)) (by rw [hlen]; exact hL) ?_
    obtain ⟨ep, h3⟩ := sortedHeap_at (a := h1.objs.size) (vs := vs) (out := (sortVals (dataKind (sortingHeap (h1.push (seqObj "list" vs.toArray 0)) h1.objs.size vs) (bs.map enc)) false vs vs).toArray) hat
    refine ⟨_, rfl, wpAny_pure ⟨_, rfl, h h1 _ _ _ ep k1 (fun b o q => ?_) (by rw [sortVals_length false rfl]; exact hlen) (sortVals_data false e er' hal) h3⟩⟩
    have hlt := Heap.lt_size q
    exact sortedHeap_old (Nat.ne_of_lt hlt) (by rw [Heap.size_push]; exact Nat.lt_succ_of_lt hlt) |>.trans (kp b o q)
/-- the keys' addresses -/
def kvN (xs : List (NE V)) : List V := xs.map fun x => .ref x.2.1
def rSortN (K : PySem.W.Frag) (w : World) : List V → Hp → VK → Prop := fun vs H Q => ∃ (a : Addr) (xs : List (NE V)) (ps : List PyData), vs = [.ref a] ∧ NDict K w H a xs ∧ DpAll K H (kvN xs) ps ∧ AllAlike ps ∧ PySem.W.Sortable ps ∧ (∀ d ∈ ps, d.depth ≤ 60) ∧
  ∀ p, H p = none → Q (.ref p) (upd H p (.lst ((((kvN xs).zip ps).mergeSort (dataLe false Prod.snd)).map Prod.fst)))
theorem vals_keys : ∀ {xs : List (NE V)} {us : List (NE Value)}, NRel xs us → Vals (kvN xs) (us.map fun u => .ref u.2.1)
  | [], [], .nil => .nil
  | x :: xs, u :: us, .cons h t => .cons (by show Value.ref u.2.1 = Value.ref x.2.1; rw [h.2.1]) (vals_keys t)
theorem cr_sortN {X : Cx} (hu : X.A.units + 64 < cLine) (hc : X.calm = true) : CallR X (.builtin "sorted") (rSortN X.K X.w) := by
  intro pins s σ H vs us Q I r h
  obtain ⟨a, xs, ps, rfl, nd, hp, hal, hso, hdp, q⟩ := h
  obtain ⟨u, rfl, ru⟩ := vals1 r
  obtain rfl : u = Value.ref a := ru
  have hl := dpAll_len hp
  obtain ⟨z, hd, ws, rel, dd⟩ := nd.of I
  have rv := vals_keys rel
  have hxl : (kvN xs).length = xs.length := by unfold kvN; rw [List.length_map]
  obtain ⟨o, es, ep, ho, hcl, hdt, hes, _, _⟩ := dd
  have hsz : es.size = xs.length := by
    have := congrArg List.length hes
    rw [Array.length_toList, List.length_map] at this
    rw [this, ← Paired.length rel]
  have hkey : es.toList.map (·.key) = ws.map fun u => Value.ref u.2.1 := by rw [hes, List.map_map]; rfl
  refine sortC_core (β := V × PyData) (vs := ws.map fun u => Value.ref u.2.1) (enc := Prod.snd) (R := fun u b => RelV b.1 u) (bs := (kvN xs).zip ps) (fun E' Q' hQ' => ?_) (each_zip rv hl) (each_reads I hp rv) (by rw [zip_snd hl]; exact hal) (by rw [zip_snd hl]; exact hso)
      (by rw [List.length_zip, hl, Nat.min_self, ← hl, hxl]; exact z) (fun b hb => ?_) fun h1 h2 tk out ep k1 k2 hlen eo hnew => ?_
  · refine collect_src (KdlSrc.rawDict (es := es) (ep := ep) hd) (I.ok.hd hc) ⟨o, ho, hcl, hdt⟩ (by rw [hsz]; exact z) fun h' tk acc' kp it => ?_
    have e : acc'.toList = ws.map fun u => Value.ref u.2.1 := by
      rw [← hkey]
      refine List.ext_getElem? fun j => ?_
      have hsz2 : acc'.size = es.size := it.1
      rw [Array.getElem?_toList, List.getElem?_map, Array.getElem?_toList]
      by_cases hj : j < es.size
      · obtain ⟨hi, ev⟩ := it.2 j acc'[j] (by simp [hsz2, hj])
        rw [Array.getElem?_eq_getElem (by rw [hsz2]; exact hj), Array.getElem?_eq_getElem hj, ev]
        rfl
      · rw [Array.getElem?_eq_none (by rw [hsz2]; omega), Array.getElem?_eq_none (by omega)]
        rfl
    rw [e]
    exact hQ' h' tk kp
  · have hm : b.2 ∈ ps := by
      have := List.mem_map_of_mem (f := Prod.snd) hb
      rw [zip_snd hl] at this
      exact this
    have := hdp _ hm
    omega
  · have I1 : Inv X pins σ H { s with heap := h1 } := I.kept (t' := s.toks) k1
    have hv := vals_each eo
    have hlen2 : ((((kvN xs).zip ps).mergeSort (dataLe false Prod.snd)).map Prod.fst).length ≤ sizeLine := by
      rw [List.length_map, List.length_mergeSort, List.length_zip, hl, Nat.min_self, ← hl, hxl]
      exact z
    exact ⟨.ref _, upd H h1.objs.size (.lst ((((kvN xs).zip ps).mergeSort (dataLe false Prod.snd)).map Prod.fst)), I1.laid (t' := tk) k2 (Nat.le_refl _) ⟨hlen2, out, ep, hv, hnew⟩, rfl, q _ (I1.hok.fresh (Nat.le_refl _))⟩
section
variable {F : Fm} {w : World} {δ : List SD} {te : TE} {PL : List D → Prop}
theorem repN_keys {K : PySem.W.Frag} {H : Hp} : ∀ {xs : List (NE V)} {kvs : List (NestedKey × D)}, RepN K H xs kvs → RepL K H (kvN xs) (kvs.map fun x => nkD x.1)
  | [], [], .nil => .nil
  | _ :: _, _ :: _, .cons _ r _ t => .cons r (repN_keys t)
theorem sortN_of {M : Addr → Bool} {H H1 : Hp} {σ : L2.St} {Q : VK} {kvs : List (NestedKey × D)} {xs : List (NE V)} {a : Addr} (c : Pf.Ctx F M σ H δ) (c1 : Pf.Ctx F M σ H1 δ) (e1 : StepB F.mv H H1) (ha : H1 a = some (HDn w a xs)) (rr : RepN F.K (hd M H1) xs kvs) (ok : SortOk (kvs.map fun x => nkD x.1)) (pz : PL (sortD (kvs.map fun x => nkD x.1)))
    (q : ∀ p vs ds H', PL ds → Pf.Ctx F (hid M p) σ H' δ → H p = none → F.H0 p = none → ¬ F.mv p → NoOw δ p → StepB F.mv H H' → H' p = some (.lst vs) → RepL F.K (hd (hid M p) H') vs ds → Q (.ref p) H') : rSortN F.K w [.ref a] H1 Q := by
  have hr := repN_keys rr
  refine ⟨a, xs, (kvs.map fun x => nkD x.1).map pyd, rfl, ⟨ha, fun x hx => ⟨(rr.keys x hx).1, (rr.keys x hx).2.mono (same_hd M H1)⟩⟩, ?_, ok.al, ok.so, fun d hd => ?_, fun p hp => ?_⟩
  · rw [← pydL_map]
    exact repL_dp (hr.mono (same_hd M H1)) ok.pl
  · obtain ⟨x, hx, rfl⟩ := List.mem_map.mp hd
    exact ok.dp x hx
  have hp0 : H p = none := by
    cases z : H p with
    | none => rfl
    | some o =>
      have := e1 p o (c1.nob hp) z
      rw [hp] at this
      cases this
  refine q p _ _ _ pz (c1.hide hp) hp0 (c1.h0 hp) (c1.nob hp) (c1.nown hp) (e1.trans (StepB.of (same_new hp))) upd_same ((repL_sort hr).mono fun b u e => ?_)
  obtain ⟨m, h⟩ := hd_of e
  have n : b ≠ p := ne_of_none h hp
  exact hd_at (by rw [hid_ne n]; exact m) (by rw [upd_ne n]; exact h)
theorem en_sortedNO {i : Nat} {p : Addr} {kvs : List (NestedKey × D)} (hi : δ[i]? = some (.own p (.dicN w kvs))) (ok : SortOk (kvs.map fun x => nkD x.1)) (pz : PL (sortD (kvs.map fun x => nkD x.1))) : EvN F (tCB (rSortN F.K w) (tCons (tVar i) tNil)) δ PL := fun M σ H Q c q => by
  obtain ⟨s, hs, e, m, ho, hp, rr⟩ := c.sl i _ hi
  subst e
  cases rr with
  | dicN rr => exact ⟨_, hs, sortN_of c c (StepB.refl _ _) hp rr ok pz q⟩
end
end PfJ

/-! CoreJ3: the rules of CoreJ0, J2 with K and w named; a def that returns a new list or raises (spRN). -/
namespace PfJ
open PySem L2 PySem.Spec Pf
section
variable {X : Cx} {o i value : Expr} {pos pos' : Pos} {td ty tv : TE}
theorem psNPut (K : PySem.W.Frag) (w : World) (hu : X.A.units + 64 < cLine) (ho : PE X o td) (hi : PE X i ty) (hv : PE X value tv) (hs : swapsWith value (some (.Subscript o i pos')) pos.line X.env = pure false) (hK : X.K = K := by rfl) (hw : X.w = w := by rfl) :
    PS X (.Assign [.Subscript o i pos'] value pos) (sNPut K w td ty tv) := by subst hK hw; exact ps_nput hu ho hi hv hs
theorem peNNew (w : World) (hw : X.w = w := by rfl) : PE X (.Dict [] [] pos) (tNNew w) := by subst hw; exact pe_nnew
theorem crSortN (K : PySem.W.Frag) (w : World) (hu : X.A.units + 64 < cLine) (hc : X.calm = true := by rfl) (hK : X.K = K := by rfl) (hw : X.w = w := by rfl) : CallR X (.builtin "sorted") (rSortN K w) := by subst hK hw; exact cr_sortN hu hc
end
theorem opCatA (K : PySem.W.Frag) {X : Cx} (hK : X.K = K := by rfl) : OpR X (binaryOp .Add) (rCatA K) := by subst hK; exact op_catA
/-! ### a def that returns a new list, or raises -/
def spRN (K : PySem.W.Frag) (Pre : List D → Prop) (Post : List D → List D → Prop) (PX : List D → Addr → List (Str × D) → Prop) : Sp := fun vs H Q E => ∃ (M : Addr → Bool) (ds : List D), Al M H ∧ RepL K (hd M H) vs ds ∧ Pre ds ∧
  (∀ p us es H', Post ds es → H p = none → Same H H' → H' p = some (.lst us) → RepL K (hd (hid M p) H') us es → Q (.ref p) H') ∧ ∀ C gs dx fvs H', PX ds C gs → Same H H' → H dx = none → H' dx = some (.xd fvs) → RepF K (hd M H') fvs gs → E (.ref C) (some dx) H'
section
variable {K : PySem.W.Frag} {vs : List V} {H : Hp} {Q : VK} {E : XK} {N : List Str} {t : TS} {Pre : List D → Prop} {Post : List D → List D → Prop} {PX : List D → Addr → List (Str × D) → Prop}
theorem spRN_len {n : Nat} (h : ∀ ds, Pre ds → ds.length = n) (s : spRN K Pre Post PX vs H Q E) : vs.length = n := by
  obtain ⟨M, ds, _, r, pre, _⟩ := s
  rw [r.length, h ds pre]
theorem enterRN (hs : spRN K Pre Post PX vs H Q E) (hb : ∀ (M : Addr → Bool) (ds : List D), Pre ds → ds.length = vs.length → RaiseOk ⟨K, none, M, H, E, 0, []⟩ (PX ds) → DoN ⟨K, none, M, H, E, 0, []⟩ t (slots N ds) (Post ds)) :
    t { nx := fun _ H' => Q .non H', rt := Q } (L2.start N vs) H := by
  obtain ⟨M, ds, al, r, pre, q, qx⟩ := hs
  have hl := r.length
  have c : Pf.Ctx ⟨K, none, M, H, E, 0, []⟩ M (L2.start N vs) H (slots N ds) := by
    refine ⟨al, al, fun _ h => h, StepB.refl _ _, ⟨fun b z => (nomatch z), fun a h => (nomatch h)⟩, ?_, ?_, fun i j x y p h1 h2 hp _ => absurd hp (no_own h1), fun i x p h hp => absurd hp (no_own h)⟩
    · unfold L2.start slots
      rw [List.length_append, List.length_append, List.length_map, List.length_map, List.length_replicate, List.length_replicate, hl]
    · unfold L2.start slots
      rw [hl]
      exact sl_base rfl _ r
  have ok : RaiseOk ⟨K, none, M, H, E, 0, []⟩ (PX ds) := fun C gs dx fvs H' px s h0 hx rf => qx C gs dx fvs H' px (fun a o h => s a o (mv_none rfl rfl a) h) h0 hx rf
  refine hb M ds pre hl.symm ok M _ H _ c fun p us es M' σ' H' δ' pd c' hp h0 hbn m r' => ?_
  refine q p us es H' pd h0 (fun a o h => c'.fr a o (mv_none rfl rfl a) h) hp (r'.mono (same_hd_le fun a h => ?_))
  by_cases ea : a = p
  · rw [ea]
    exact m
  · rw [hid_ne ea] at h
    exact c'.m0 a h
end
section
variable {F : Fm} {δ : List SD} {ta tk : TA} {P : D → Prop} {PL : List D → Prop} {Pre : List D → Prop} {Post : List D → List D → Prop} {PX : List D → Addr → List (Str × D) → Prop} {QX : Addr → List (Str × D) → Prop}
theorem raise_at {M : Addr → Bool} {σ : L2.St} {H1 : Hp} (ok : RaiseOk F QX) (c1 : Pf.Ctx F M σ H1 δ) {px : Addr → List (Str × D) → Prop} (i : ∀ C gs, px C gs → QX C gs) : ∀ C gs dx fvs H', px C gs → Same H1 H' → H1 dx = none → H' dx = some (.xd fvs) → RepF F.K (hd M H') fvs gs → F.E (.ref C) (some dx) H' := fun C gs dx fvs H2 p s hx hd' rf => by
  have back : F.H0 dx = none := by
    cases z : F.H0 dx with
    | none => rfl
    | some o =>
      have nb : ¬ F.mv dx := c1.nob hx
      rw [c1.fr dx o nb z] at hx
      cases hx
  exact ok C gs dx fvs H2 (i C gs p) (c1.fr.trans (StepB.of s)) back hd' (rf.mono (same_hd_le fun a m => c1.m0 a m))
/-- its errors leave the frame -/
theorem en_callRN (ok : RaiseOk F QX) (h : EvA F ta δ fun ds => Pre ds ∧ (∀ d, Post ds d → PL d) ∧ ∀ C gs, PX ds C gs → QX C gs) : EvN F (tCall (spRN F.K Pre Post PX) [] F.E ta) δ PL := fun M σ H Q c q =>
  h M σ H _ c fun vs ds H1 p c1 e1 r => by
    rw [List.append_nil]
    refine ⟨M, ds, c1.al, r, p.1, fun a us es H2 pd hp s h2 r2 => ?_, raise_at ok c1 p.2.2⟩
    have hp0 : H a = none := by
      cases z : H a with
      | none => rfl
      | some o =>
        have := e1 a o (c1.nob hp) z
        rw [hp] at this
        cases this
    exact q a us es H2 (p.2.1 es pd) (c1.take hp s h2) hp0 (c1.h0 hp) (c1.nob hp) (c1.nown hp) (e1.trans (StepB.of s)) h2 r2
theorem en_callKRN {gV : List V → List V → List V} {gD : List D → List D → List D} (hg : ∀ (H : Hp) (vs zs : List V) (ds es : List D), RepL F.K H vs ds → RepL F.K H zs es → RepL F.K H (gV vs zs) (gD ds es)) (ok : RaiseOk F QX)
    (h : EvA F ta δ fun ds => EvA F tk δ fun es => Pre (gD ds es) ∧ (∀ d, Post (gD ds es) d → PL d) ∧ ∀ C gs, PX (gD ds es) C gs → QX C gs) : EvN F (tCallK (spRN F.K Pre Post PX) gV F.E ta tk) δ PL := fun M σ H Q c q =>
  h M σ H _ c fun vs ds H1 p c1 e1 r => p M σ H1 _ c1 fun zs es H2 p2 c2 e2 r2 => by
    refine ⟨M, gD ds es, c2.al, hg _ _ _ _ _ (r.mono (hd_step c1 e2)) r2, p2.1, fun a us fs H3 pd hp s h2 r3 => ?_, raise_at ok c2 p2.2.2⟩
    have hp0 : H a = none := by
      cases z : H a with
      | none => rfl
      | some o =>
        have := (e1.trans e2) a o (c2.nob hp) z
        rw [hp] at this
        cases this
    exact q a us fs H3 (p2.2.1 fs pd) (c2.take hp s h2) hp0 (c2.h0 hp) (c2.nob hp) (c2.nown hp) ((e1.trans e2).trans (StepB.of s)) h2 r3
end
/-! where it doesn't raise -/
section
variable {F : Fm} {E' : XK} {M : Addr → Bool} {σ : L2.St} {H : Hp} {δ : List SD} {te : TE} {ta tk : TA} {P : List D → Prop} {PA : List D → Prop}
def fmE (F : Fm) (E : XK) : Fm := ⟨F.K, F.B, F.M0, F.H0, E, F.C0, F.T⟩
theorem ctxE (c : Pf.Ctx F M σ H δ) : Pf.Ctx (fmE F E') M σ H δ := ⟨c.al, c.al0, c.m0, c.fr, c.bg, c.ln, c.sl, c.dj, c.oh⟩
theorem ctxB (c : Pf.Ctx (fmE F E') M σ H δ) : Pf.Ctx F M σ H δ := ⟨c.al, c.al0, c.m0, c.fr, c.bg, c.ln, c.sl, c.dj, c.oh⟩
theorem en_E (h : EvN (fmE F E') te δ P) : EvN F te δ P := fun M σ H Q c q => h M σ H Q (ctxE c) fun p vs ds H' pd c' => q p vs ds H' pd (ctxB c')
theorem eaEb (h : EvA F ta δ PA) : EvA (fmE F E') ta δ PA := fun M σ H Q c q => h M σ H Q (ctxB c) fun v d H' p c' s r => q v d H' p (ctxE c') s r
variable {Pre : List D → Prop} {Post : List D → List D → Prop} {PX : List D → Addr → List (Str × D) → Prop}
theorem en_callN0 (h : EvA F ta δ fun ds => Pre ds ∧ (∀ d, Post ds d → P d) ∧ ∀ C gs, ¬ PX ds C gs) : EvN F (tCall (spRN F.K Pre Post PX) [] (fun _ _ _ => False) ta) δ P :=
  en_E (E' := fun _ _ _ => False) (en_callRN (QX := fun _ _ => False) (fun _ _ _ _ _ h => h.elim) ((eaEb h).imp fun ds h => ⟨h.1, h.2.1, fun C gs px => h.2.2 C gs px⟩))
theorem en_callKN0 {gV : List V → List V → List V} {gD : List D → List D → List D} (hg : ∀ (H : Hp) (vs zs : List V) (ds es : List D), RepL F.K H vs ds → RepL F.K H zs es → RepL F.K H (gV vs zs) (gD ds es))
    (h : EvA F ta δ fun ds => EvA F tk δ fun es => Pre (gD ds es) ∧ (∀ d, Post (gD ds es) d → P d) ∧ ∀ C gs, ¬ PX (gD ds es) C gs) : EvN F (tCallK (spRN F.K Pre Post PX) gV (fun _ _ _ => False) ta tk) δ P :=
  en_E (E' := fun _ _ _ => False) (en_callKRN (QX := fun _ _ => False) hg (fun _ _ _ _ _ h => h.elim) ((eaEb h).imp fun ds h => eaEb (h.imp fun es h => ⟨h.1, h.2.1, fun C gs px => h.2.2 C gs px⟩)))
end
/-- sorted(set(t)), t of ints -/
theorem en_sortSetG {F : Fm} {δ : List SD} {te : TE} {PL : List D → Prop} {w : World} (h : Ev F te δ fun d => ∃ ns : List Int, d = .tup (ns.map .int) ∧ ns.length < 63 ∧ ∀ ms : List Int, ms.Pairwise (· < ·) → (∀ k, k ∈ ms ↔ k ∈ ns) → PL (ms.map .int)) : EvN F (tCB (rSortedSet w) (tCons (tCB (rSetI F.K w) (tCons te tNil)) tNil)) δ PL := fun M σ H Q c q =>
  h M σ H _ c fun v d H1 p c1 e1 r => by
    obtain ⟨ns, rfl, hz, pz⟩ := p
    cases r with
    | @tup a vs _ h1 h2 =>
      have e := repL_ints h2
      subst e
      refine ⟨a, ns, rfl, same_tup (same_hd M H1) h1, hz, fun p n hp hn => ?_⟩
      refine ⟨p, _, n, rfl, upd_same, hn, fun ms l pm hm hl hl0 => ?_⟩
      have c2 := c1.same (same_new (o := SetO w p (fun j => decide (j ∈ ns)) n) hp)
      have k2 : StepB F.mv H (upd H1 p (SetO w p (fun j => decide (j ∈ ns)) n)) := e1.trans (StepB.of (same_new hp))
      have hl1 : H l = none := by
        cases z : H l with
        | none => rfl
        | some o =>
          have := k2 l o (c2.nob hl0) z
          rw [hl0] at this
          cases this
      refine q l _ (ms.map .int) _ (pz ms pm fun k => by rw [hm k, decide_eq_true_eq]) (c2.hide hl0) hl1 (c2.h0 hl0) (c2.nob hl0) (c2.nown hl0) (k2.trans (StepB.of (same_new hl0))) upd_same ?_
      have : ∀ (H : Hp) (l : List Int), RepL F.K H (l.map V.int) (l.map D.int) := fun H l => by
        induction l with
        | nil => exact .nil
        | cons x l ih => exact .cons (.int _) ih
      exact this _ _
end PfJ

set_option maxHeartbeats 16000000
namespace Pf
open PySem L2 PfL RZ
def top (i : Nat) : Stmt := PySem.Challenge.pw_partfirsts_k24_steps_of_standings.main.body.getD i (.Pass ⟨0, 0, 0, 0⟩)
abbrev s_copied : Stmt := top 2
abbrev s_InvalidStanding_init : Stmt := inClass (top 10) 0
abbrev s_is_whole : Stmt := top 16
abbrev s_is_number : Stmt := top 17
abbrev s__are_live : Stmt := top 19
abbrev s_is_standing : Stmt := top 20
abbrev s__check_standing : Stmt := top 21
abbrev s__subsets : Stmt := top 22
abbrev s__asked : Stmt := top 23
abbrev s_first_standing : Stmt := top 24
abbrev s_p_steps : Stmt := top 25
abbrev s_kinds_at : Stmt := top 33
abbrev s__is_ask : Stmt := top 45
abbrev s__are_asks : Stmt := top 46
abbrev s__is_following : Stmt := top 47
abbrev s__is_state : Stmt := top 48
abbrev s_check_orders : Stmt := top 49
abbrev s__check_states : Stmt := top 50
abbrev s_Reader_init : Stmt := inClass (top 51) 5
abbrev s_Reader_mark : Stmt := inClass (top 51) 7
abbrev s_Reader_inner : Stmt := inClass (top 51) 8
abbrev s_Reader_order : Stmt := inClass (top 51) 9
abbrev s_Reader_parts : Stmt := inClass (top 51) 10
abbrev s_Reader_states : Stmt := inClass (top 51) 11
abbrev s_Reader_len : Stmt := inClass (top 51) 13
abbrev s_open : Stmt := top 53
abbrev s_draw : Stmt := top 54
abbrev s_of : Stmt := top 55
abbrev s_like : Stmt := top 56
abbrev s_field : Stmt := top 57
abbrev s_try : Stmt := top 58
abbrev s_tries : Stmt := top 59
abbrev s_state : Stmt := top 60
abbrev s_spec : Stmt := top 61
abbrev s_good_spec : Stmt := top 62
abbrev s_reader : Stmt := top 63
abbrev s_any_spec : Stmt := top 64
abbrev s_steps : Stmt := top 65
abbrev s_some_standing : Stmt := top 66
abbrev s_no_standing : Stmt := top 67
abbrev s_law : Stmt := top 68
abbrev N_copied : List Str := ["value", "item"]
theorem sc_copied : FnScope N_copied ["value"] (defScope s_copied) := ⟨rfl, rfl, rfl, by decide +kernel, rfl, by decide +kernel, by decide +kernel⟩
abbrev N_InvalidStanding_init : List Str := ["self", "given"]
theorem sc_InvalidStanding_init : FnScope N_InvalidStanding_init ["self", "given"] (defScope s_InvalidStanding_init) := ⟨rfl, rfl, rfl, by decide +kernel, rfl, by decide +kernel, by decide +kernel⟩
abbrev N_is_whole : List Str := ["value"]
theorem sc_is_whole : FnScope N_is_whole ["value"] (defScope s_is_whole) := ⟨rfl, rfl, rfl, by decide +kernel, rfl, by decide +kernel, by decide +kernel⟩
abbrev N_is_number : List Str := ["value", "least", "most"]
theorem sc_is_number : FnScope N_is_number ["value", "least", "most"] (defScope s_is_number) := ⟨rfl, rfl, rfl, by decide +kernel, rfl, by decide +kernel, by decide +kernel⟩
abbrev N__are_live : List Str := ["value", "parts", "part"]
theorem sc__are_live : FnScope N__are_live ["value", "parts"] (defScope s__are_live) := ⟨rfl, rfl, rfl, by decide +kernel, rfl, by decide +kernel, by decide +kernel⟩
abbrev N_is_standing : List Str := ["reader", "value"]
theorem sc_is_standing : FnScope N_is_standing ["reader", "value"] (defScope s_is_standing) := ⟨rfl, rfl, rfl, by decide +kernel, rfl, by decide +kernel, by decide +kernel⟩
abbrev N__check_standing : List Str := ["reader", "value"]
theorem sc__check_standing : FnScope N__check_standing ["reader", "value"] (defScope s__check_standing) := ⟨rfl, rfl, rfl, by decide +kernel, rfl, by decide +kernel, by decide +kernel⟩
abbrev N__subsets : List Str := ["parts", "found", "part", "some"]
theorem sc__subsets : FnScope N__subsets ["parts"] (defScope s__subsets) := ⟨rfl, rfl, rfl, by decide +kernel, rfl, by decide +kernel, by decide +kernel⟩
abbrev N__asked : List Str := ["asks", "parts", "part"]
theorem sc__asked : FnScope N__asked ["asks", "parts"] (defScope s__asked) := ⟨rfl, rfl, rfl, by decide +kernel, rfl, by decide +kernel, by decide +kernel⟩
abbrev N_first_standing : List Str := ["reader"]
theorem sc_first_standing : FnScope N_first_standing ["reader"] (defScope s_first_standing) := ⟨rfl, rfl, rfl, by decide +kernel, rfl, by decide +kernel, by decide +kernel⟩
abbrev N_p_steps : List Str := ["reader", "standing", "state", "live", "size", "asks", "full", "thin", "found", "some"]
theorem sc_p_steps : FnScope N_p_steps ["reader", "standing"] (defScope s_p_steps) := ⟨rfl, rfl, rfl, by decide +kernel, rfl, by decide +kernel, by decide +kernel⟩
abbrev N_kinds_at : List Str := ["reader", "standing", "state", "size", "_", "full", "thin", "asks", "found", "part"]
theorem sc_kinds_at : FnScope N_kinds_at ["reader", "standing"] (defScope s_kinds_at) := ⟨rfl, rfl, rfl, by decide +kernel, rfl, by decide +kernel, by decide +kernel⟩
abbrev N__is_ask : List Str := ["value"]
theorem sc__is_ask : FnScope N__is_ask ["value"] (defScope s__is_ask) := ⟨rfl, rfl, rfl, by decide +kernel, rfl, by decide +kernel, by decide +kernel⟩
abbrev N__are_asks : List Str := ["value", "ask"]
theorem sc__are_asks : FnScope N__are_asks ["value"] (defScope s__are_asks) := ⟨rfl, rfl, rfl, by decide +kernel, rfl, by decide +kernel, by decide +kernel⟩
abbrev N__is_following : List Str := ["value", "many"]
theorem sc__is_following : FnScope N__is_following ["value", "many"] (defScope s__is_following) := ⟨rfl, rfl, rfl, by decide +kernel, rfl, by decide +kernel, by decide +kernel⟩
abbrev N__is_state : List Str := ["value", "many", "size", "asks", "full", "thin"]
theorem sc__is_state : FnScope N__is_state ["value", "many"] (defScope s__is_state) := ⟨rfl, rfl, rfl, by decide +kernel, rfl, by decide +kernel, by decide +kernel⟩
abbrev N_check_orders : List Str := ["inner", "order"]
theorem sc_check_orders : FnScope N_check_orders ["inner", "order"] (defScope s_check_orders) := ⟨rfl, rfl, rfl, by decide +kernel, rfl, by decide +kernel, by decide +kernel⟩
abbrev N__check_states : List Str := ["states", "at", "state"]
theorem sc__check_states : FnScope N__check_states ["states"] (defScope s__check_states) := ⟨rfl, rfl, rfl, by decide +kernel, rfl, by decide +kernel, by decide +kernel⟩
abbrev N_Reader_init : List Str := ["self", "mark", "states", "inner", "order"]
theorem sc_Reader_init : FnScope N_Reader_init ["self", "mark", "states", "inner", "order"] (defScope s_Reader_init) := ⟨rfl, rfl, rfl, by decide +kernel, rfl, by decide +kernel, by decide +kernel⟩
abbrev N_Reader_mark : List Str := ["self"]
theorem sc_Reader_mark : FnScope N_Reader_mark ["self"] (defScope s_Reader_mark) := ⟨rfl, rfl, rfl, by decide +kernel, rfl, by decide +kernel, by decide +kernel⟩
abbrev N_Reader_parts : List Str := ["self"]
theorem sc_Reader_parts : FnScope N_Reader_parts ["self"] (defScope s_Reader_parts) := ⟨rfl, rfl, rfl, by decide +kernel, rfl, by decide +kernel, by decide +kernel⟩
abbrev N_Reader_states : List Str := ["self"]
theorem sc_Reader_states : FnScope N_Reader_states ["self"] (defScope s_Reader_states) := ⟨rfl, rfl, rfl, by decide +kernel, rfl, by decide +kernel, by decide +kernel⟩
abbrev N_Reader_len : List Str := ["self"]
theorem sc_Reader_len : FnScope N_Reader_len ["self"] (defScope s_Reader_len) := ⟨rfl, rfl, rfl, by decide +kernel, rfl, by decide +kernel, by decide +kernel⟩
abbrev N_open : List Str := ["_law_script"]
theorem sc_open : FnScope N_open ["_law_script"] (defScope s_open) := ⟨rfl, rfl, rfl, by decide +kernel, rfl, by decide +kernel, by decide +kernel⟩
abbrev N_draw : List Str := ["_law_bag", "_law_many", "_law_cell", "_law_digit", "_law_seed"]
theorem sc_draw : FnScope N_draw ["_law_bag", "_law_many"] (defScope s_draw) := ⟨rfl, rfl, rfl, by decide +kernel, rfl, by decide +kernel, by decide +kernel⟩
abbrev N_of : List Str := ["_law_bag", "_law_things"]
theorem sc_of : FnScope N_of ["_law_bag", "_law_things"] (defScope s_of) := ⟨rfl, rfl, rfl, by decide +kernel, rfl, by decide +kernel, by decide +kernel⟩
abbrev N_like : List Str := ["_law_found", "_law_due", "_law_one", "_law_other"]
theorem sc_like : FnScope N_like ["_law_found", "_law_due"] (defScope s_like) := ⟨rfl, rfl, rfl, by decide +kernel, rfl, by decide +kernel, by decide +kernel⟩
abbrev N_field : List Str := ["_law_e"]
theorem sc_field : FnScope N_field ["_law_e"] (defScope s_field) := ⟨rfl, rfl, rfl, by decide +kernel, rfl, by decide +kernel, by decide +kernel⟩
abbrev N_try : List Str := ["_law_ask", "_law_e"]
theorem sc_try : FnScope N_try ["_law_ask"] (defScope s_try) := ⟨rfl, rfl, rfl, by decide +kernel, rfl, by decide +kernel, by decide +kernel⟩
abbrev N_tries : List Str := ["_law_asks", "_law_ask"]
theorem sc_tries : FnScope N_tries ["_law_asks"] (defScope s_tries) := ⟨rfl, rfl, rfl, by decide +kernel, rfl, by decide +kernel, by decide +kernel⟩
abbrev N_state : List Str := ["_law_bag", "_law_parts", "_law_many", "_law_size", "_law_asks", "_law_goals", "_law_part"]
theorem sc_state : FnScope N_state ["_law_bag", "_law_parts", "_law_many"] (defScope s_state) := ⟨rfl, rfl, rfl, by decide +kernel, rfl, by decide +kernel, by decide +kernel⟩
abbrev N_spec : List Str := ["_law_bag", "_law_parts", "_law_most", "_law_many", "_law_mark", "_law_inner_z", "_law_order_z", "_law_k"]
theorem sc_spec : FnScope N_spec ["_law_bag", "_law_parts", "_law_most"] (defScope s_spec) := ⟨rfl, rfl, rfl, by decide +kernel, rfl, by decide +kernel, by decide +kernel⟩
abbrev N_good_spec : List Str := ["_law_bag", "_law_parts", "_law_most", "_law_many", "_law_ways", "_law_mark", "_law_inner_z", "_law_order_z", "_law_states", "_law_k", "_law_size", "_law_asks", "_law_part"]
theorem sc_good_spec : FnScope N_good_spec ["_law_bag", "_law_parts", "_law_most"] (defScope s_good_spec) := ⟨rfl, rfl, rfl, by decide +kernel, rfl, by decide +kernel, by decide +kernel⟩
abbrev N_reader : List Str := ["_law_spec_here"]
theorem sc_reader : FnScope N_reader ["_law_spec_here"] (defScope s_reader) := ⟨rfl, rfl, rfl, by decide +kernel, rfl, by decide +kernel, by decide +kernel⟩
abbrev N_any_spec : List Str := ["_law_bag", "_law_parts", "_law_most"]
theorem sc_any_spec : FnScope N_any_spec ["_law_bag", "_law_parts", "_law_most"] (defScope s_any_spec) := ⟨rfl, rfl, rfl, by decide +kernel, rfl, by decide +kernel, by decide +kernel⟩
abbrev N_steps : List Str := ["_law_spec_here", "_law_standing_z", "_law_at", "_law_live", "_law_size", "_law_asks", "_law_full", "_law_thin", "_law_found", "_law_mask", "_law_some", "_law_part"]
theorem sc_steps : FnScope N_steps ["_law_spec_here", "_law_standing_z"] (defScope s_steps) := ⟨rfl, rfl, rfl, by decide +kernel, rfl, by decide +kernel, by decide +kernel⟩
abbrev N_some_standing : List Str := ["_law_bag", "_law_spec_here", "_law_parts", "_law_part"]
theorem sc_some_standing : FnScope N_some_standing ["_law_bag", "_law_spec_here"] (defScope s_some_standing) := ⟨rfl, rfl, rfl, by decide +kernel, rfl, by decide +kernel, by decide +kernel⟩
abbrev N_no_standing : List Str := ["_law_bag", "_law_spec_here", "_law_many", "_law_parts"]
theorem sc_no_standing : FnScope N_no_standing ["_law_bag", "_law_spec_here"] (defScope s_no_standing) := ⟨rfl, rfl, rfl, by decide +kernel, rfl, by decide +kernel, by decide +kernel⟩
abbrev N_law : List Str := ["_law_script", "_law_bag", "_law_turn", "_law_parts", "_law_spec_here", "_law_reader_z", "_law_again", "_law_here", "_law_odd", "_law_found"]
theorem sc_law : FnScope N_law ["_law_script"] (defScope s_law) := ⟨rfl, rfl, rfl, by decide +kernel, rfl, by decide +kernel, by decide +kernel⟩
set_option genInjectivity false in
set_option genSizeOfSpec false in
structure Txt (K : PySem.W.Frag) (mg : Str → Option Value) where
  f_copied : Addr
  fd_copied : FuncData
  F_copied : Fun K "copied" "copied" s_copied f_copied fd_copied
  g_copied : mg "copied" = some (.ref f_copied)
  k_copied : PySem.W.keepIn K (.ref f_copied) = true
  bd_copied : Binds K fd_copied ["value"] []
  f_InvalidStanding_init : Addr
  fd_InvalidStanding_init : FuncData
  F_InvalidStanding_init : Fun K "__init__" "InvalidStanding.__init__" s_InvalidStanding_init f_InvalidStanding_init fd_InvalidStanding_init
  k_InvalidStanding_init : PySem.W.keepIn K (.ref f_InvalidStanding_init) = true
  bd_InvalidStanding_init : Binds K fd_InvalidStanding_init ["self", "given"] []
  f_is_whole : Addr
  fd_is_whole : FuncData
  F_is_whole : Fun K "is_whole" "is_whole" s_is_whole f_is_whole fd_is_whole
  g_is_whole : mg "is_whole" = some (.ref f_is_whole)
  k_is_whole : PySem.W.keepIn K (.ref f_is_whole) = true
  bd_is_whole : Binds K fd_is_whole ["value"] []
  f_is_number : Addr
  fd_is_number : FuncData
  F_is_number : Fun K "is_number" "is_number" s_is_number f_is_number fd_is_number
  g_is_number : mg "is_number" = some (.ref f_is_number)
  k_is_number : PySem.W.keepIn K (.ref f_is_number) = true
  bd_is_number : Binds K fd_is_number ["value", "least", "most"] []
  f__are_live : Addr
  fd__are_live : FuncData
  F__are_live : Fun K "_are_live" "_are_live" s__are_live f__are_live fd__are_live
  g__are_live : mg "_are_live" = some (.ref f__are_live)
  k__are_live : PySem.W.keepIn K (.ref f__are_live) = true
  bd__are_live : Binds K fd__are_live ["value", "parts"] []
  f_is_standing : Addr
  fd_is_standing : FuncData
  F_is_standing : Fun K "is_standing" "is_standing" s_is_standing f_is_standing fd_is_standing
  g_is_standing : mg "is_standing" = some (.ref f_is_standing)
  k_is_standing : PySem.W.keepIn K (.ref f_is_standing) = true
  bd_is_standing : Binds K fd_is_standing ["reader", "value"] []
  f__check_standing : Addr
  fd__check_standing : FuncData
  F__check_standing : Fun K "_check_standing" "_check_standing" s__check_standing f__check_standing fd__check_standing
  g__check_standing : mg "_check_standing" = some (.ref f__check_standing)
  k__check_standing : PySem.W.keepIn K (.ref f__check_standing) = true
  bd__check_standing : Binds K fd__check_standing ["reader", "value"] []
  f__subsets : Addr
  fd__subsets : FuncData
  F__subsets : Fun K "_subsets" "_subsets" s__subsets f__subsets fd__subsets
  g__subsets : mg "_subsets" = some (.ref f__subsets)
  k__subsets : PySem.W.keepIn K (.ref f__subsets) = true
  bd__subsets : Binds K fd__subsets ["parts"] []
  f__asked : Addr
  fd__asked : FuncData
  F__asked : Fun K "_asked" "_asked" s__asked f__asked fd__asked
  g__asked : mg "_asked" = some (.ref f__asked)
  k__asked : PySem.W.keepIn K (.ref f__asked) = true
  bd__asked : Binds K fd__asked ["asks", "parts"] []
  f_first_standing : Addr
  fd_first_standing : FuncData
  F_first_standing : Fun K "first_standing" "first_standing" s_first_standing f_first_standing fd_first_standing
  g_first_standing : mg "first_standing" = some (.ref f_first_standing)
  k_first_standing : PySem.W.keepIn K (.ref f_first_standing) = true
  bd_first_standing : Binds K fd_first_standing ["reader"] []
  f_p_steps : Addr
  fd_p_steps : FuncData
  F_p_steps : Fun K "steps" "steps" s_p_steps f_p_steps fd_p_steps
  g_p_steps : mg "steps" = some (.ref f_p_steps)
  k_p_steps : PySem.W.keepIn K (.ref f_p_steps) = true
  bd_p_steps : Binds K fd_p_steps ["reader", "standing"] []
  f_kinds_at : Addr
  fd_kinds_at : FuncData
  F_kinds_at : Fun K "kinds_at" "kinds_at" s_kinds_at f_kinds_at fd_kinds_at
  g_kinds_at : mg "kinds_at" = some (.ref f_kinds_at)
  k_kinds_at : PySem.W.keepIn K (.ref f_kinds_at) = true
  bd_kinds_at : Binds K fd_kinds_at ["reader", "standing"] []
  f__is_ask : Addr
  fd__is_ask : FuncData
  F__is_ask : Fun K "_is_ask" "_is_ask" s__is_ask f__is_ask fd__is_ask
  g__is_ask : mg "_is_ask" = some (.ref f__is_ask)
  k__is_ask : PySem.W.keepIn K (.ref f__is_ask) = true
  bd__is_ask : Binds K fd__is_ask ["value"] []
  f__are_asks : Addr
  fd__are_asks : FuncData
  F__are_asks : Fun K "_are_asks" "_are_asks" s__are_asks f__are_asks fd__are_asks
  g__are_asks : mg "_are_asks" = some (.ref f__are_asks)
  k__are_asks : PySem.W.keepIn K (.ref f__are_asks) = true
  bd__are_asks : Binds K fd__are_asks ["value"] []
  f__is_following : Addr
  fd__is_following : FuncData
  F__is_following : Fun K "_is_following" "_is_following" s__is_following f__is_following fd__is_following
  g__is_following : mg "_is_following" = some (.ref f__is_following)
  k__is_following : PySem.W.keepIn K (.ref f__is_following) = true
  bd__is_following : Binds K fd__is_following ["value", "many"] []
  f__is_state : Addr
  fd__is_state : FuncData
  F__is_state : Fun K "is_state" "is_state" s__is_state f__is_state fd__is_state
  g__is_state : mg "is_state" = some (.ref f__is_state)
  k__is_state : PySem.W.keepIn K (.ref f__is_state) = true
  bd__is_state : Binds K fd__is_state ["value", "many"] []
  f_check_orders : Addr
  fd_check_orders : FuncData
  F_check_orders : Fun K "check_orders" "check_orders" s_check_orders f_check_orders fd_check_orders
  g_check_orders : mg "check_orders" = some (.ref f_check_orders)
  k_check_orders : PySem.W.keepIn K (.ref f_check_orders) = true
  bd_check_orders : Binds K fd_check_orders ["inner", "order"] []
  f__check_states : Addr
  fd__check_states : FuncData
  F__check_states : Fun K "_check_states" "_check_states" s__check_states f__check_states fd__check_states
  g__check_states : mg "_check_states" = some (.ref f__check_states)
  k__check_states : PySem.W.keepIn K (.ref f__check_states) = true
  bd__check_states : Binds K fd__check_states ["states"] []
  f_Reader_init : Addr
  fd_Reader_init : FuncData
  F_Reader_init : Fun K "__init__" "Reader.__init__" s_Reader_init f_Reader_init fd_Reader_init
  k_Reader_init : PySem.W.keepIn K (.ref f_Reader_init) = true
  FD_Reader_init : FunD K "__init__" "Reader.__init__" (defArgs s_Reader_init) (defBody s_Reader_init) (defScope s_Reader_init) [] [("inner", .str "up"), ("order", .str "number")] f_Reader_init fd_Reader_init
  f_Reader_mark : Addr
  fd_Reader_mark : FuncData
  F_Reader_mark : Fun K "mark" "Reader.mark" s_Reader_mark f_Reader_mark fd_Reader_mark
  k_Reader_mark : PySem.W.keepIn K (.ref f_Reader_mark) = true
  bd_Reader_mark : Binds K fd_Reader_mark ["self"] []
  f_Reader_inner : Addr
  fd_Reader_inner : FuncData
  F_Reader_inner : Fun K "inner" "Reader.inner" s_Reader_inner f_Reader_inner fd_Reader_inner
  k_Reader_inner : PySem.W.keepIn K (.ref f_Reader_inner) = true
  bd_Reader_inner : Binds K fd_Reader_inner ["self"] []
  f_Reader_order : Addr
  fd_Reader_order : FuncData
  F_Reader_order : Fun K "order" "Reader.order" s_Reader_order f_Reader_order fd_Reader_order
  k_Reader_order : PySem.W.keepIn K (.ref f_Reader_order) = true
  bd_Reader_order : Binds K fd_Reader_order ["self"] []
  f_Reader_parts : Addr
  fd_Reader_parts : FuncData
  F_Reader_parts : Fun K "parts" "Reader.parts" s_Reader_parts f_Reader_parts fd_Reader_parts
  k_Reader_parts : PySem.W.keepIn K (.ref f_Reader_parts) = true
  bd_Reader_parts : Binds K fd_Reader_parts ["self"] []
  f_Reader_states : Addr
  fd_Reader_states : FuncData
  F_Reader_states : Fun K "states" "Reader.states" s_Reader_states f_Reader_states fd_Reader_states
  k_Reader_states : PySem.W.keepIn K (.ref f_Reader_states) = true
  bd_Reader_states : Binds K fd_Reader_states ["self"] []
  f_Reader_len : Addr
  fd_Reader_len : FuncData
  F_Reader_len : Fun K "__len__" "Reader.__len__" s_Reader_len f_Reader_len fd_Reader_len
  k_Reader_len : PySem.W.keepIn K (.ref f_Reader_len) = true
  bd_Reader_len : Binds K fd_Reader_len ["self"] []
  f_open : Addr
  fd_open : FuncData
  F_open : Fun K "_law_open" "_law_open" s_open f_open fd_open
  g_open : mg "_law_open" = some (.ref f_open)
  k_open : PySem.W.keepIn K (.ref f_open) = true
  bd_open : Binds K fd_open ["_law_script"] []
  f_draw : Addr
  fd_draw : FuncData
  F_draw : Fun K "_law_draw" "_law_draw" s_draw f_draw fd_draw
  g_draw : mg "_law_draw" = some (.ref f_draw)
  k_draw : PySem.W.keepIn K (.ref f_draw) = true
  bd_draw : Binds K fd_draw ["_law_bag", "_law_many"] []
  f_of : Addr
  fd_of : FuncData
  F_of : Fun K "_law_of" "_law_of" s_of f_of fd_of
  g_of : mg "_law_of" = some (.ref f_of)
  k_of : PySem.W.keepIn K (.ref f_of) = true
  bd_of : Binds K fd_of ["_law_bag", "_law_things"] []
  f_like : Addr
  fd_like : FuncData
  F_like : Fun K "_law_like" "_law_like" s_like f_like fd_like
  g_like : mg "_law_like" = some (.ref f_like)
  k_like : PySem.W.keepIn K (.ref f_like) = true
  bd_like : Binds K fd_like ["_law_found", "_law_due"] []
  f_field : Addr
  fd_field : FuncData
  F_field : Fun K "_law_field" "_law_field" s_field f_field fd_field
  g_field : mg "_law_field" = some (.ref f_field)
  k_field : PySem.W.keepIn K (.ref f_field) = true
  bd_field : Binds K fd_field ["_law_e"] []
  f_try : Addr
  fd_try : FuncData
  F_try : Fun K "_law_try" "_law_try" s_try f_try fd_try
  g_try : mg "_law_try" = some (.ref f_try)
  k_try : PySem.W.keepIn K (.ref f_try) = true
  bd_try : Binds K fd_try ["_law_ask"] []
  f_tries : Addr
  fd_tries : FuncData
  F_tries : Fun K "_law_tries" "_law_tries" s_tries f_tries fd_tries
  g_tries : mg "_law_tries" = some (.ref f_tries)
  k_tries : PySem.W.keepIn K (.ref f_tries) = true
  bd_tries : Binds K fd_tries ["_law_asks"] []
  f_state : Addr
  fd_state : FuncData
  F_state : Fun K "_law_state" "_law_state" s_state f_state fd_state
  g_state : mg "_law_state" = some (.ref f_state)
  k_state : PySem.W.keepIn K (.ref f_state) = true
  bd_state : Binds K fd_state ["_law_bag", "_law_parts", "_law_many"] []
  f_spec : Addr
  fd_spec : FuncData
  F_spec : Fun K "_law_spec" "_law_spec" s_spec f_spec fd_spec
  g_spec : mg "_law_spec" = some (.ref f_spec)
  k_spec : PySem.W.keepIn K (.ref f_spec) = true
  bd_spec : Binds K fd_spec ["_law_bag", "_law_parts", "_law_most"] []
  f_good_spec : Addr
  fd_good_spec : FuncData
  F_good_spec : Fun K "_law_good_spec" "_law_good_spec" s_good_spec f_good_spec fd_good_spec
  g_good_spec : mg "_law_good_spec" = some (.ref f_good_spec)
  k_good_spec : PySem.W.keepIn K (.ref f_good_spec) = true
  bd_good_spec : Binds K fd_good_spec ["_law_bag", "_law_parts", "_law_most"] []
  f_reader : Addr
  fd_reader : FuncData
  F_reader : Fun K "_law_reader" "_law_reader" s_reader f_reader fd_reader
  g_reader : mg "_law_reader" = some (.ref f_reader)
  k_reader : PySem.W.keepIn K (.ref f_reader) = true
  bd_reader : Binds K fd_reader ["_law_spec_here"] []
  f_any_spec : Addr
  fd_any_spec : FuncData
  F_any_spec : Fun K "_law_any_spec" "_law_any_spec" s_any_spec f_any_spec fd_any_spec
  g_any_spec : mg "_law_any_spec" = some (.ref f_any_spec)
  k_any_spec : PySem.W.keepIn K (.ref f_any_spec) = true
  bd_any_spec : Binds K fd_any_spec ["_law_bag", "_law_parts", "_law_most"] []
  f_steps : Addr
  fd_steps : FuncData
  F_steps : Fun K "_law_steps" "_law_steps" s_steps f_steps fd_steps
  g_steps : mg "_law_steps" = some (.ref f_steps)
  k_steps : PySem.W.keepIn K (.ref f_steps) = true
  bd_steps : Binds K fd_steps ["_law_spec_here", "_law_standing_z"] []
  f_some_standing : Addr
  fd_some_standing : FuncData
  F_some_standing : Fun K "_law_some_standing" "_law_some_standing" s_some_standing f_some_standing fd_some_standing
  g_some_standing : mg "_law_some_standing" = some (.ref f_some_standing)
  k_some_standing : PySem.W.keepIn K (.ref f_some_standing) = true
  bd_some_standing : Binds K fd_some_standing ["_law_bag", "_law_spec_here"] []
  f_no_standing : Addr
  fd_no_standing : FuncData
  F_no_standing : Fun K "_law_no_standing" "_law_no_standing" s_no_standing f_no_standing fd_no_standing
  g_no_standing : mg "_law_no_standing" = some (.ref f_no_standing)
  k_no_standing : PySem.W.keepIn K (.ref f_no_standing) = true
  bd_no_standing : Binds K fd_no_standing ["_law_bag", "_law_spec_here"] []
  f_law : Addr
  fd_law : FuncData
  F_law : Fun K "law" "law" s_law f_law fd_law
  g_law : mg "law" = some (.ref f_law)
  k_law : PySem.W.keepIn K (.ref f_law) = true
  bd_law : Binds K fd_law ["_law_script"] []
  b_all : mg "all" = none
  b_bool : mg "bool" = none
  b_enumerate : mg "enumerate" = none
  b_int : mg "int" = none
  b_isinstance : mg "isinstance" = none
  b_len : mg "len" = none
  b_list : mg "list" = none
  b_range : mg "range" = none
  b_set : mg "set" = none
  b_sorted : mg "sorted" = none
  b_str : mg "str" = none
  b_sum : mg "sum" = none
  b_tuple : mg "tuple" = none
  b_zip : mg "zip" = none
  t__MOST_SIZE : Tok
  g__MOST_SIZE : mg "_MOST_SIZE" = some (.int 9 t__MOST_SIZE)
  c_Table : Addr
  g_Table : mg "Table" = some (.ref c_Table)
  cf_Table : ClsF K c_Table
  mc_Table : Value
  cr_Table : ClX.CRead K c_Table mc_Table
  cv_Table_MOST_PARTS : ∃ u, ClX.CVal K c_Table mc_Table "MOST_PARTS" (.int 4) u
  c_Reader : Addr
  g_Reader : mg "Reader" = some (.ref c_Reader)
  cf_Reader : ClsF K c_Reader
  mk_Reader : Mk K c_Reader f_Reader_init
  m_Reader_states : Meth K c_Reader "states" f_Reader_states
  dn_Reader_len : PySem.W.findIn K (.ref c_Reader) "__len__" = some (some (.ref f_Reader_len))
  fn_Reader_len : PySem.W.isFn K (.ref f_Reader_len) = true
  p_Reader_mark : Addr
  pr_Reader_mark : PropOf K c_Reader "mark" p_Reader_mark f_Reader_mark
  p_Reader_inner : Addr
  pr_Reader_inner : PropOf K c_Reader "inner" p_Reader_inner f_Reader_inner
  p_Reader_order : Addr
  pr_Reader_order : PropOf K c_Reader "order" p_Reader_order f_Reader_order
  p_Reader_parts : Addr
  pr_Reader_parts : PropOf K c_Reader "parts" p_Reader_parts f_Reader_parts
  na_Reader_mark : NoAttr K c_Reader "_mark"
  na_Reader_inner : NoAttr K c_Reader "_inner"
  na_Reader_order : NoAttr K c_Reader "_order"
  na_Reader_states : NoAttr K c_Reader "_states"
  mc_Reader : Value
  cr_Reader : ClX.CRead K c_Reader mc_Reader
  cv_Reader_MOST_STATES : ∃ u, ClX.CVal K c_Reader mc_Reader "MOST_STATES" (.int 6) u
  cv_Reader_MOST_ASK : ∃ u, ClX.CVal K c_Reader mc_Reader "MOST_ASK" (.int 9) u
  ct_Reader_MARKS : ∃ a u, ClX.CVal K c_Reader mc_Reader "MARKS" (.ref a) u ∧ ∀ H, SqT K H a [.str "key", .str "from", .str "row", .str "each", .str "count", .str "rest"]
  ct_Reader_INNER : ∃ a u, ClX.CVal K c_Reader mc_Reader "INNER" (.ref a) u ∧ ∀ H, SqT K H a [.str "up", .str "down"]
  ct_Reader_ORDERS : ∃ a u, ClX.CVal K c_Reader mc_Reader "ORDERS" (.ref a) u ∧ ∀ H, SqT K H a [.str "number", .str "back", .str "part"]
  c_PartError : Addr
  g_PartError : mg "PartError" = some (.ref c_PartError)
  c_Missing : Addr
  g_Missing : mg "Missing" = some (.ref c_Missing)
  c_NothingLeft : Addr
  g_NothingLeft : mg "NothingLeft" = some (.ref c_NothingLeft)
  c_InvalidStanding : Addr
  g_InvalidStanding : mg "InvalidStanding" = some (.ref c_InvalidStanding)
  xa_InvalidStanding : XAll K c_InvalidStanding f_InvalidStanding_init ["code", "at", "number", "name", "line", "most", "first", "limit", "given"]
  ex_InvalidStanding : PySem.W.exmAny K (.ref c_InvalidStanding) [.ref c_PartError, .ref c_Missing, .ref c_NothingLeft] = some true
  cL : Addr
  pL : Addr
  FC_law : FunC K "law" "law" s_law f_law cL fd_law

def gkb_p_steps_standing_reader {α : Type} (us ws : List α) : List α := match us, ws with | [], [b0, b1] => [b1, b0] | _, _ => []
theorem kb_p_steps_standing_reader {K : PySem.W.Frag} {mg : Str → Option Value} (T : Txt K mg) : KBinds K T.fd_p_steps ["reader", "standing"] ["standing", "reader"] gkb_p_steps_standing_reader gkb_p_steps_standing_reader := by
  obtain ⟨oc, od, kV, doc, pm, an, cdv, ct, osl, hfd, lk, hcd⟩ := T.F_p_steps.ex
  refine ⟨fun s us ws _ hl => ?_, fun {vs us zs ws} r rz => ?_⟩
  · rw [hfd]
    rcases us with _ | ⟨yu0, lu⟩ <;> rcases ws with _ | ⟨yw0, _ | ⟨yw1, _ | ⟨yw2, lw⟩⟩⟩ <;> first
      | (simp [gkb_p_steps_standing_reader] at hl; done)
      | exact .of_eq rfl
  ·
    cases r with
    | nil =>
      cases rz with
      | nil => exact .nil
      | cons b0 rz =>
        cases rz with
        | nil => exact .nil
        | cons b1 rz =>
          cases rz with
          | nil => exact (.cons b1 (.cons b0 .nil))
          | cons b2 rz => exact .nil
    | cons a0 r => exact .nil
theorem krkb_p_steps_standing_reader (K : PySem.W.Frag) (H : Hp) (vs zs : List V) (ds es : List D) (r : RepL K H vs ds) (rz : RepL K H zs es) : RepL K H (gkb_p_steps_standing_reader vs zs) (gkb_p_steps_standing_reader ds es) := by
  cases r with
  | nil =>
    cases rz with
    | nil => exact .nil
    | cons b0 rz =>
      cases rz with
      | nil => exact .nil
      | cons b1 rz =>
        cases rz with
        | nil => exact (.cons b1 (.cons b0 .nil))
        | cons b2 rz => exact .nil
  | cons a0 r => exact .nil
def gkb_first_standing_reader {α : Type} (us ws : List α) : List α := match us, ws with | [], [b0] => [b0] | _, _ => []
theorem kb_first_standing_reader {K : PySem.W.Frag} {mg : Str → Option Value} (T : Txt K mg) : KBinds K T.fd_first_standing ["reader"] ["reader"] gkb_first_standing_reader gkb_first_standing_reader := by
  obtain ⟨oc, od, kV, doc, pm, an, cdv, ct, osl, hfd, lk, hcd⟩ := T.F_first_standing.ex
  refine ⟨fun s us ws _ hl => ?_, fun {vs us zs ws} r rz => ?_⟩
  · rw [hfd]
    rcases us with _ | ⟨yu0, lu⟩ <;> rcases ws with _ | ⟨yw0, _ | ⟨yw1, lw⟩⟩ <;> first
      | (simp [gkb_first_standing_reader] at hl; done)
      | exact .of_eq rfl
  ·
    cases r with
    | nil =>
      cases rz with
      | nil => exact .nil
      | cons b0 rz =>
        cases rz with
        | nil => exact (.cons b0 .nil)
        | cons b1 rz => exact .nil
    | cons a0 r => exact .nil
theorem krkb_first_standing_reader (K : PySem.W.Frag) (H : Hp) (vs zs : List V) (ds es : List D) (r : RepL K H vs ds) (rz : RepL K H zs es) : RepL K H (gkb_first_standing_reader vs zs) (gkb_first_standing_reader ds es) := by
  cases r with
  | nil =>
    cases rz with
    | nil => exact .nil
    | cons b0 rz =>
      cases rz with
      | nil => exact (.cons b0 .nil)
      | cons b1 rz => exact .nil
  | cons a0 r => exact .nil
def gkw_Reader_init_inner_order {α : Type} (us ws : List α) : List α := match us, ws with | [a0, a1, a2], [b0, b1] => [a0, a1, a2, b0, b1] | _, _ => []
theorem kw_Reader_init_inner_order {K : PySem.W.Frag} {mg : Str → Option Value} (T : Txt K mg) : KBn K T.fd_Reader_init ["self", "mark", "states", "inner", "order"] 3 ["inner", "order"] gkw_Reader_init_inner_order gkw_Reader_init_inner_order := by
  refine (FunD.kbinds0 (ps := ["self", "mark", "states", "inner", "order"]) T.FD_Reader_init 3 ["inner", "order"] [] (fun us _ ws => gkw_Reader_init_inner_order us ws) (by simp) (by simp) (fun {vs mz zs us mv ws} r _ rz => ?_) (fun D doc pm an cdv ct us mv ws h1 h2 h3 => ?_)).elim fun mv h => h
  ·
    cases r with
    | nil => exact .nil
    | cons a0 r =>
      cases r with
      | nil => exact .nil
      | cons a1 r =>
        cases r with
        | nil => exact .nil
        | cons a2 r =>
          cases r with
          | nil =>
            cases rz with
            | nil => exact .nil
            | cons b0 rz =>
              cases rz with
              | nil => exact .nil
              | cons b1 rz =>
                cases rz with
                | nil => exact (.cons a0 (.cons a1 (.cons a2 (.cons b0 (.cons b1 .nil)))))
                | cons b2 rz => exact .nil
          | cons a3 r => exact .nil
  · match us, ws, h1, h3 with
    | [_, _, _], [_, _], _, _ => exact rfl
theorem krkw_Reader_init_inner_order (K : PySem.W.Frag) (H : Hp) (vs zs : List V) (ds es : List D) (r : RepL K H vs ds) (rz : RepL K H zs es) : RepL K H (gkw_Reader_init_inner_order vs zs) (gkw_Reader_init_inner_order ds es) := by
  cases r with
  | nil => exact .nil
  | cons a0 r =>
    cases r with
    | nil => exact .nil
    | cons a1 r =>
      cases r with
      | nil => exact .nil
      | cons a2 r =>
        cases r with
        | nil =>
          cases rz with
          | nil => exact .nil
          | cons b0 rz =>
            cases rz with
            | nil => exact .nil
            | cons b1 rz =>
              cases rz with
              | nil => exact (.cons a0 (.cons a1 (.cons a2 (.cons b0 (.cons b1 .nil)))))
              | cons b2 rz => exact .nil
        | cons a3 r => exact .nil
def gx1 {α : Type} (us ws : List α) : List α := match us, ws with | [a, b], [] => [a, b] | _, _ => []
theorem rel_gx1 {vs zs : List V} {us ws : List Value} (r : Vals vs us) (rz : Vals zs ws) : Vals (gx1 vs zs) (gx1 us ws) := by
  match r, rz with
  | .cons r1 (.cons r2 .nil), .nil => exact .cons r1 (.cons r2 .nil)
  | .nil, .nil => exact .nil
  | .cons _ .nil, .nil => exact .nil
  | .cons _ (.cons _ (.cons _ _)), .nil => exact .nil
  | .nil, .cons _ _ => exact .nil
  | .cons _ .nil, .cons _ _ => exact .nil
  | .cons _ (.cons _ .nil), .cons _ _ => exact .nil
  | .cons _ (.cons _ (.cons _ _)), .cons _ _ => exact .nil
theorem kxp_InvalidStanding {K : PySem.W.Frag} {mg : Str → Option Value} (T : Txt K mg) : KBn K T.fd_InvalidStanding_init ["self", "given"] 2 [] gx1 gx1 := by
  obtain ⟨oc, od, kV, doc, pm, an, cdv, ct, osl, hfd, lk, hcd⟩ := T.F_InvalidStanding_init.ex
  refine ⟨fun s us ws _ h1 h2 => ?_, fun {vs us zs ws} r rz => ?_⟩
  · rw [hfd]
    match us, ws, h1, h2 with
    | [_, _], [], _, _ => exact .of_eq rfl
  · exact rel_gx1 r rz
/-! ### the draws -/
theorem asg_cut {te : TE} {g : TG} {D : Ends} {σ : L2.St} {H : Hp} (h : ∀ G : V → Hp → Prop, G = (fun x H1 => g x σ H1 D.nx) → te σ H G) : tAsg te g D σ H := h _ rfl
theorem seq_in {t u : TS} {D : Ends} {σ : L2.St} {H : Hp} (h : t { D with nx := u D } σ H) : tSeq t u D σ H := h
theorem pm1 : (0 : Int) < 2147483587 := by decide
theorem pm2 : (0 : Int) < 2147483549 := by decide
theorem seq_cut {t u : TS} {D : Ends} {σ : L2.St} {H : Hp} (h : ∀ G : L2.St → Hp → Prop, G = u D → t { D with nx := G } σ H) : tSeq t u D σ H := h _ rfl
def preDraw : List D → Prop := fun ds => ∃ m : Int, ds = [.int m] ∧ 0 < m ∧ m < 1073741824
def postDraw : List D → D → Prop := fun ds d => ∃ m r : Int, ds = [.int m] ∧ d = .int r ∧ 0 ≤ r ∧ r < m
section
variable {K : PySem.W.Frag} {σ : L2.St} {H : Hp} {b c : Addr} {Q : VK} {i z s t : Int}
theorem bag_ix {xs : List V} {k : Int} {v : V} (h0 : σ[0]? = some (some (.ref b))) (hb : H b = some (.lst xs)) (hv : atI xs k = some v) (q : Q v H) : tOp (rIxL K) (tVar 0) (tC (.int k)) σ H Q :=
  ⟨_, h0, _, xs, k, v, rfl, rfl, SqL.of hb, hv, q⟩
theorem bag_set {xs : List V} {k : Int} {j : Nat} {v : V} {R : L2.St → Hp → Prop} (h0 : σ[0]? = some (some (.ref b))) (hb : H b = some (.lst xs)) (hj : ixN xs.length k = some j) (q : R σ (upd H b (.lst (xs.set j v)))) : gSub (tVar 0) (tC (.int k)) rSetL v σ H R :=
  ⟨_, h0, _, xs, k, j, rfl, rfl, hb, hj, q⟩
end
theorem ok_draw {P : Program} {w : World} {K : PySem.W.Frag} {mg : Str → Option Value} {base : Heap} (T : Txt K mg) : FnOk P w K mg base CX0 2 T.f_draw T.fd_draw ["_law_bag", "_law_many"] (spB K preDraw postDraw) := by
  refine T.F_draw.ok sc_draw (spB_len fun ds ⟨m, e, _⟩ => by rw [e]; rfl) (fun cdv A outer s H vs Q E hr h => ?_)
  refine ⟨_, (pss_cons (ps_if (PW.pt (pw_and (pt_cmpR op_eq (pe_ix (ixL K) (pv 0) pe_int (fun _ _ => rfl)) pe_int (nomark _)) (pw_and1 (pt_cmpR op_lt (pe_ix (ixL K) (pv 0) pe_int (fun _ _ => rfl)) (pe_callB (callLen K) (by rfl) T.b_len (by decide +kernel) (pa_cons (pe_ix (ixL K) (pv 0) pe_int (fun _ _ => rfl)) pa_nil)) (nomark _))))) (pss_cons (ps_set (i := 2) sc_draw.nd rfl (Or.inl rfl) (pe_ix (ixL K) (pe_ix (ixL K) (pv 0) pe_int (fun _ _ => rfl)) (pe_ix (ixL K) (pv 0) pe_int (fun _ _ => rfl)) (fun _ _ => rfl)))
      (pss_cons (ps_asg (pe_op op_add (pe_ix (ixL K) (pv 0) pe_int (fun _ _ => rfl)) pe_int) (pg_sub (pv 0) pe_int set_list))
      (pss_cons (ps_asg (pe_ifExp (pt_cmpR op_ge (pv 2) (pe_op op_pow pe_int pe_int) (nomark _)) (pv 2) pe_int) (pg_sub (pv 0) pe_int set_list))
      (pss_one (ps_asg (pe_op op_mod (pe_callTy call_int1 (by rfl) T.b_int (by decide +kernel) (pa_cons (pe_op op_add (pe_op op_add (pe_op op_mul (pe_ix (ixL K) (pv 0) pe_int (fun _ _ => rfl)) pe_int) (pe_op op_mul (pe_op op_mod (pe_callTy call_int1 (by rfl) T.b_int (by decide +kernel) (pa_cons (pv 2) pa_nil)) pe_int) pe_int)) pe_int) pa_nil)) pe_int) (pg_sub (pv 0) pe_int set_list)))))) pss_nil)
    (pss_cons (ps_if (pt_cmpR op_gt (pe_ix (ixL K) (pv 0) pe_int (fun _ _ => rfl)) pe_int (nomark _)) (pss_cons (ps_set (i := 3) sc_draw.nd rfl (Or.inl rfl) (pe_op op_mod (pe_callTy call_int1 (by rfl) T.b_int (by decide +kernel) (pa_cons (pe_ix (ixL K) (pv 0) pe_int (fun _ _ => rfl)) pa_nil)) (pv 1)))
      (pss_cons (ps_asg (pe_op op_fdiv (pe_ix (ixL K) (pv 0) pe_int (fun _ _ => rfl)) (pv 1)) (pg_sub (pv 0) pe_int set_list))
      (pss_one (ps_ret (pv 3))))) pss_nil)
    (pss_cons (ps_asg (pe_op op_add (pe_ix (ixL K) (pv 0) pe_int (fun _ _ => rfl)) pe_int) (pg_sub (pv 0) pe_int set_list))
    (pss_cons (ps_set (i := 4) sc_draw.nd rfl (Or.inl rfl) (pe_ix (ixL K) (pv 0) pe_int (fun _ _ => rfl)))
    (pss_cons (ps_asg (pe_op op_mod (pe_callTy call_int1 (by rfl) T.b_int (by decide +kernel) (pa_cons (pe_op op_add (pe_op op_add (pe_op op_add (pe_op op_mul (pv 4) (pv 4)) (pe_op op_mul pe_int (pv 4))) (pe_op op_mul pe_int (pe_ix (ixL K) (pv 0) pe_int (fun _ _ => rfl)))) pe_int) pa_nil)) pe_int) (pg_sub (pv 0) pe_int set_list))
    (pss_one (ps_ret (pe_op op_mod (pe_callTy call_int1 (by rfl) T.b_int (by decide +kernel) (pa_cons (pe_op op_add (pe_op op_add (pe_op op_fdiv (pe_ix (ixL K) (pv 0) pe_int (fun _ _ => rfl)) pe_int) (pe_op op_mul (pv 4) pe_int)) (pe_ix (ixL K) (pv 0) pe_int (fun _ _ => rfl))) pa_nil)) (pv 1))))))))), ?_⟩
  obtain ⟨M, b, c, ws, ds, rfl, al, mb, ba, r, ⟨m, rfl, m0, m1⟩, q⟩ := h
  cases r with
  | cons r1 r2 =>
  cases r1
  cases r2
  obtain ⟨ns, i, z, sd, t, hb, nc, hc, hi, hn, z0, s0, s1, t0⟩ := ba
  -- what is behind the first if
  refine seq_cut fun G hG => ?_
  have rest : ∀ (x : Option V) (H1 : Hp) (i' : Nat) (z' s' : Int), H1 b = some (.lst [.ref c, .int (i' : Nat), .int z', .int s', .int t]) → (∀ a, a ≠ b → H1 a = H a) → i' ≤ ns.length → 0 ≤ z' → 0 ≤ s' → s' < 2147483587 → G [some (.ref b), some (.int m), x, none, none] H1 := by
    subst hG
    intro x H1 i' z' s' hb1 hk hi' z0' s0' s1'
    have hfin : ∀ (H2 : Hp) (z2 s2 t2 r : Int), H2 b = some (.lst [.ref c, .int (i' : Nat), .int z2, .int s2, .int t2]) → (∀ a, a ≠ b → H2 a = H a) → 0 ≤ z2 → 0 ≤ s2 → s2 < 2147483587 → 0 ≤ t2 → 0 ≤ r → r < m → Q (.int r) H2 := by
      intro H2 z2 s2 t2 r hb2 hk2 a1 a2 a3 a4 a5 a6
      refine q (.int r) (.int r) H2 ⟨m, r, rfl, rfl, a5, a6⟩ (fun a o n h => ?_) ⟨ns, i', z2, s2, t2, hb2, nc, by rw [hk2 c nc]; exact hc, hi', hn, a1, a2, a3, a4⟩ (.int r)
      rw [hk2 a fun e => n (by rw [e])]
      exact h
    refine bag_ix (k := 2) rfl hb1 rfl ⟨_, _, rfl, rfl, _, rfl, ?_⟩
    refine ite2 (fun hz => ?_) (fun hz => ?_)
    · have hz' : 0 < z' := of_decide_eq_true hz
      refine bag_ix rfl hb1 rfl (.inl ⟨_, rfl, _, rfl, _, _, rfl, rfl, m0, ?_⟩)
      refine bag_ix rfl hb1 rfl ⟨_, rfl, _, _, rfl, rfl, ⟨m0, m1⟩, ?_⟩
      refine bag_set rfl hb1 rfl ?_
      refine ⟨_, rfl, ?_⟩
      refine hfin _ (z' / m) s' t (z' % m) upd_same (fun a n => by rw [upd_ne n]; exact hk a n) (Int.ediv_nonneg z0' (Int.le_of_lt m0)) s0' s1' t0 (Int.emod_nonneg _ (Int.ne_of_gt m0)) (Int.emod_lt_of_pos _ m0)
    · refine bag_ix rfl hb1 rfl ⟨_, _, rfl, rfl, ?_⟩
      refine bag_set rfl hb1 rfl ?_
      refine bag_ix rfl upd_same rfl ?_
      refine ⟨_, rfl, _, rfl, _, _, rfl, rfl, .inl ⟨by omega, by omega⟩, ?_⟩
      refine ⟨_, rfl, _, _, rfl, rfl, .inl ⟨by decide, by decide⟩, _, _, rfl, rfl, ?_⟩
      refine bag_ix rfl upd_same rfl ⟨_, _, rfl, rfl, .inl ⟨by decide, by decide⟩, _, _, rfl, rfl, ?_⟩
      refine ⟨_, _, rfl, rfl, .inl ⟨_, rfl, _, _, rfl, rfl, pm1, ?_⟩⟩
      refine bag_set rfl upd_same rfl ?_
      refine bag_ix rfl upd_same rfl ⟨_, _, rfl, rfl, ⟨by decide, by decide⟩, ?_⟩
      refine ⟨_, rfl, _, _, rfl, rfl, .inr ⟨by decide, by decide⟩, _, _, rfl, rfl, ?_⟩
      refine bag_ix rfl upd_same rfl ⟨_, _, rfl, rfl, .inl ⟨_, rfl, _, rfl, _, _, rfl, rfl, m0, ?_⟩⟩
      refine hfin _ z' _ (t + 1) _ upd_same (fun a n => by rw [upd_ne n, upd_ne n]; exact hk a n) z0' (Int.emod_nonneg _ (by decide)) (Int.emod_lt_of_pos _ pm1) (by omega) (Int.emod_nonneg _ (Int.ne_of_gt m0)) (Int.emod_lt_of_pos _ m0)
  refine bag_ix rfl hb rfl ⟨rfl, _, rfl, ?_⟩
  refine ite2 (fun hz => ?_) (fun hz => ?_)
  · refine bag_ix rfl hb rfl ?_
    refine bag_ix rfl hb rfl ⟨_, ns.length, rfl, .inl ⟨_, SqL.of hc, by rw [List.length_map]⟩, _, _, rfl, rfl, _, rfl, ?_⟩
    refine ite2 (fun hl => ?_) (fun hl => rest none H i z sd hb (fun a _ => rfl) hi z0 s0 s1)
    have hl' : i < ns.length := by
      have := of_decide_eq_true hl
      omega
    have hat : atI (ns.map V.int) (i : Int) = some (.int (ns[i])) := atI_nat (by simp [hl'])
    refine bag_ix rfl hb rfl ?_
    refine bag_ix rfl hb rfl ⟨_, _, _, _, rfl, rfl, SqL.of hc, hat, ?_⟩
    generalize ns[i] = cell
    refine bag_ix rfl hb rfl ⟨_, _, rfl, rfl, ?_⟩
    refine bag_set rfl hb rfl ?_
    dsimp only
    refine seq_in ?_
    refine asg_cut fun G2 hG2 => ?_
    have go : ∀ zz : Int, 0 ≤ zz → G2 (.int zz) (upd H b (.lst [.ref c, .int ((i : Int) + 1), .int z, .int sd, .int t])) := by
      subst hG2
      intro zz hzz
      refine bag_set rfl upd_same rfl ?_
      refine bag_ix rfl upd_same rfl ⟨_, _, rfl, rfl, .inr ⟨by decide, by decide⟩, ?_⟩
      refine ⟨_, rfl, .inl ⟨_, rfl, _, _, rfl, rfl, pm2, _, _, rfl, rfl, .inr ⟨by decide, by decide⟩, _, _, rfl, rfl, _, _, rfl, rfl, .inl ⟨_, rfl, _, _, rfl, rfl, pm1, ?_⟩⟩⟩
      refine bag_set rfl upd_same rfl ?_
      exact rest _ _ (i + 1) zz _ upd_same (fun a n => by rw [upd_ne n, upd_ne n, upd_ne n]) hl' hzz (Int.emod_nonneg _ (by decide)) (Int.emod_lt_of_pos _ pm1)
    refine ⟨_, rfl, _, _, rfl, rfl, ⟨by decide, by decide, by decide⟩, _, _, rfl, rfl, _, rfl, ?_⟩
    refine ite2 (fun hz => ?_) (fun hz => ?_)
    · refine ⟨_, rfl, ?_⟩
      refine go cell ?_
      have : (10 : Int) ^ Int.toNat 18 ≤ cell := of_decide_eq_true hz
      exact Int.le_trans (by decide) this
    · exact go 0 (Int.le_refl _)
  · exact rest none H i z sd hb (fun a _ => rfl) hi z0 s0 s1
local macro_rules | `(tactic| walk_at "ev") => `(tactic| first
  | ((with_reducible refine' ev_var ?h ?_); (case h => rfl))
  | with_reducible refine ev_int ?_
  | with_reducible refine ev_bl ?_
  | with_reducible refine ev_str ?_
  | with_reducible refine ev_non ?_
  | with_reducible refine ev_ty ?_
  | with_reducible refine ev_op ?_
  | with_reducible refine ev_un ?_
  | with_reducible refine ev_chain ?_
  | with_reducible refine ev_if ?_
  | with_reducible refine ev_and ?_
  | with_reducible refine ev_or ?_
  | with_reducible refine ev_not ?_
  | with_reducible refine ev_lst ?_
  | with_reducible refine ev_tup ?_
  | with_reducible refine ea_nil ?_
  | with_reducible refine ea_cons ?_
  | with_reducible refine ev_cb ?_
  | with_reducible refine et_test ?_
  | with_reducible refine et_B ?_
  | with_reducible refine et_and ?_
  | with_reducible refine et_or ?_
  | with_reducible refine et_not ?_
  | with_reducible refine et_yes ?_
  | with_reducible refine eo_none ?_
  | with_reducible refine eo_some ?_
  | with_reducible refine ev_slS ?_
  | with_reducible refine od_int ?_
  | with_reducible refine od_bl ?_
  | with_reducible refine od_eq_int ?_
  | with_reducible refine od_ne_int ?_
  | with_reducible refine od_eq_bl ?_
  | with_reducible refine od_ne_bl ?_
  | with_reducible refine od_eq_str ?_
  | with_reducible refine od_ne_str ?_
  | with_reducible refine od_leS ?_
  | with_reducible refine ud_isN ?_
  | with_reducible refine ud_notN ?_
  | with_reducible refine do_seq ?_
  | with_reducible refine do_set ?_
  | with_reducible refine do_ret ?_
  | with_reducible refine do_retN ?_
  | with_reducible refine do_if ?_
  | with_reducible refine do_next ?_
  | with_reducible refine tg_name ?_
  | with_reducible refine tgs_nil ?_
  | with_reducible refine tgs_cons ?_)
/-! ### one of some things -/
def atD (x : D) (i : Int) : Option D := match x with
  | .lst xs => atI xs i | .tup xs => atI xs i | .str z => (atI z.cps.toList i).map fun c => .str ⟨#[c]⟩ | _ => none
theorem od_ix {K : PySem.W.Frag} {P : D → Prop} {x d : D} {i : Int} (hz : ∀ z, x = .str z → z.length ≤ 100000) (h : atD x i = some d) (p : P d) : OpD K (rIx K) x (.int i) P := fun M H v w Q al r1 r2 q => by
  cases x with
  | lst xs => exact .inl (od_ixL h p M H v w Q al r1 r2 q)
  | tup xs => exact .inr (.inl (od_ixT h p M H v w Q al r1 r2 q))
  | str z =>
    cases e : atI z.cps.toList i with
    | none =>
      have h' : (atI z.cps.toList i).map (fun c => D.str ⟨#[c]⟩) = some d := h
      rw [e] at h'
      cases h'
    | some c =>
      have h' : (atI z.cps.toList i).map (fun c => D.str ⟨#[c]⟩) = some d := h
      rw [e] at h'
      cases h'
      exact .inr (.inr (od_ixS (hz z rfl) e p M H v w Q al r1 r2 q))
  | _ => cases h
theorem atD_some {x : D} {n : Nat} {i : Int} (h : lenD x = some n) (h0 : 0 ≤ i) (h1 : i < n) : ∃ d, atD x i = some d := by
  cases x with
  | lst xs =>
    cases h
    exact ⟨_, atI_nat' h0 (by omega)⟩
  | tup xs =>
    cases h
    exact ⟨_, atI_nat' h0 (by omega)⟩
  | str z =>
    cases h
    have h2 : i.toNat < z.cps.toList.length := by
      have : z.cps.toList.length = z.length := by simp [Str.length]
      omega
    refine ⟨.str ⟨#[z.cps.toList[i.toNat]]⟩, ?_⟩
    show (atI z.cps.toList i).map _ = some _
    rw [atI_nat' h0 h2]
    rfl
  | _ => cases h
def preOf : List D → Prop := fun ds => ∃ x n, ds = [x] ∧ lenD x = some n ∧ 0 < n ∧ n ≤ 100000
def postOf : List D → D → Prop := fun ds d => ∃ x n i, ds = [x] ∧ lenD x = some n ∧ 0 ≤ i ∧ i < (n : Int) ∧ atD x i = some d
theorem ok_of {P : Program} {w : World} {K : PySem.W.Frag} {mg : Str → Option Value} {base : Heap} (T : Txt K mg) : FnOk P w K mg base CX0 4 T.f_of T.fd_of ["_law_bag", "_law_things"] (spB K preOf postOf) := by
  refine T.F_of.ok sc_of (spB_len fun ds ⟨x, n, e, _⟩ => by rw [e]; rfl) (fun cdv A outer s H vs Q E hr h => ?_)
  refine ⟨_, (pss_one (ps_ret (pe_ix (ixA K) (pv 1) (pe_call (ok_draw T) (hr.mono (by decide)) rfl T.g_draw T.k_draw T.bd_draw .nil pass0 (pa_cons (pv 0) (pa_cons (pe_callB (callLen K) (by rfl) T.b_len (by decide +kernel) (pa_cons (pv 1) pa_nil)) pa_nil))) (fun _ _ => rfl)))), ?_⟩
  refine enterB h fun M b c ds pre _ => ?_
  obtain ⟨x, n, rfl, hl, n0, n1⟩ := pre
  refine do_ret ?_
  refine ev_op ?_
  refine ev_var rfl ?_
  refine ev_callB rfl rfl ?_
  refine ea_cons (ev_cb (ea_cons (ev_var rfl (ea_nil (cd_lenK hl n1 ?_)))))
  refine ea_nil ⟨⟨n, rfl, by omega, by omega⟩, fun d hd => ?_⟩
  obtain ⟨m, r, e, rfl, r0, r1⟩ := hd
  cases e
  obtain ⟨d, hd⟩ := atD_some hl r0 r1
  refine od_ix (fun z e => ?_) hd ⟨x, n, r, rfl, hl, r0, r1, hd⟩
  subst e
  cases hl
  exact n1

/-! ### equal and of the same kinds -/
mutual
def likeD : D → D → Bool
  | .lst xs, .lst ys => likeL xs ys
  | .tup xs, .tup ys => likeL xs ys
  | .non, .non => true
  | .bl a, .bl b => a == b
  | .int a, .int b => a == b
  | .str a, .str b => decide (a = b)
  | _, _ => false
def likeL : List D → List D → Bool
  | [], [] => true
  | x :: xs, y :: ys => likeD x y && likeL xs ys
  | _, _ => false
end
mutual
def dep : D → Nat
  | .lst xs => depL xs + 1
  | .tup xs => depL xs + 1
  | _ => 0
def depL : List D → Nat
  | [] => 0
  | x :: xs => max (dep x) (depL xs)
end
mutual
def plD : D → Bool
  | .lst xs => decide (xs.length ≤ 10000) && plL xs
  | .tup xs => decide (xs.length ≤ 10000) && plL xs
  | .non => true | .bl _ => true | .int _ => true | .str _ => true
  | _ => false
def plL : List D → Bool
  | [] => true
  | x :: xs => plD x && plL xs
end
mutual
theorem likeD_self : ∀ d : D, plD d = true → likeD d d = true
  | .lst xs, h => by
    simp only [plD, Bool.and_eq_true] at h
    simp only [likeD]
    exact likeL_self xs h.2
  | .tup xs, h => by
    simp only [plD, Bool.and_eq_true] at h
    simp only [likeD]
    exact likeL_self xs h.2
  | .non, _ => by simp only [likeD]
  | .bl _, _ => by simp only [likeD, beq_self_eq_true]
  | .int _, _ => by simp only [likeD, beq_self_eq_true]
  | .str _, _ => by simp only [likeD, decide_true]
  | .dic _, h => by simp only [plD, reduceCtorEq] at h
  | .ins _ _, h => by simp only [plD, reduceCtorEq] at h
  | .ty _, h => by simp only [plD, reduceCtorEq] at h
  | .adr _, h => by simp only [plD, reduceCtorEq] at h
  | .exc _ _, h => by simp only [plD, reduceCtorEq] at h
  | .fn _ _ _ _, h => by simp only [plD, reduceCtorEq] at h
theorem likeL_self : ∀ ds : List D, plL ds = true → likeL ds ds = true
  | [], _ => by simp only [likeL]
  | d :: ds, h => by
    simp only [plL, Bool.and_eq_true] at h
    simp only [likeL, likeD_self d h.1, likeL_self ds h.2, Bool.and_self]
end
theorem likeL_len : ∀ {xs ys : List D}, likeL xs ys = true → xs.length = ys.length
  | [], [], _ => rfl
  | _ :: _, [], h => by simp only [likeL, reduceCtorEq] at h
  | [], _ :: _, h => by simp only [likeL, reduceCtorEq] at h
  | x :: xs, y :: ys, h => by
    simp only [likeL, Bool.and_eq_true] at h
    simp only [List.length_cons, likeL_len h.2]
theorem plL_get : ∀ {xs : List D} {i : Nat} {x : D}, plL xs = true → xs[i]? = some x → plD x = true
  | [], _, _, _, h => by simp at h
  | y :: ys, 0, x, h, e => by
    simp only [plL, Bool.and_eq_true] at h
    simp at e
    subst e
    exact h.1
  | y :: ys, i + 1, x, h, e => by
    simp only [plL, Bool.and_eq_true] at h
    exact plL_get (i := i) h.2 (by simpa using e)
theorem depL_get : ∀ {xs : List D} {i : Nat} {x : D}, xs[i]? = some x → dep x ≤ depL xs
  | [], _, _, h => by simp at h
  | y :: ys, 0, x, e => by
    simp at e
    subst e
    simp only [depL]
    omega
  | y :: ys, i + 1, x, e => by
    have := depL_get (xs := ys) (i := i) (x := x) (by simpa using e)
    simp only [depL]
    omega
theorem likeL_zip : ∀ {xs ys : List D}, xs.length = ys.length → likeL xs ys = ((xs.zip ys).map fun p => likeD p.1 p.2).all id
  | [], [], _ => by simp [likeL]
  | _ :: _, [], h => by simp at h
  | [], _ :: _, h => by simp at h
  | x :: xs, y :: ys, h => by
    simp only [likeL, List.zip_cons_cons, List.map_cons, List.all_cons, id]
    rw [likeL_zip (by simpa using h)]
def preLike (n : Nat) : List D → Prop := fun ds => ∃ x y, ds = [x, y] ∧ plD x = true ∧ plD y = true ∧ dep y ≤ n
def postLike : List D → D → Prop := fun ds d => ∃ x y, ds = [x, y] ∧ d = .bl (likeD x y)
theorem ty_of {d : D} (h : plD d = true) : ∃ a, tyName d = some a := by
  cases d <;> first | exact ⟨_, rfl⟩ | (simp only [plD, reduceCtorEq] at h)
/-- isinstance(x, (list, tuple)), the pair made on the way -/
theorem ev_isiT {F : Fm} {δ : List SD} {te : TE} {ta : TA} {P : D → Prop} (h : Ev F te δ fun x => EvA F ta δ fun cs => cs = [.ty "list", .ty "tuple"] ∧ ∃ a, tyName x = some a ∧ P (.bl (isTy a "list" || isTy a "tuple"))) :
    Ev F (tCB (rIsiT F.K) (tCons te (tCons (tTup ta) tNil))) δ P := fun M σ H Q c q => by
  refine h M σ H _ c fun v x H1 p1 c1 e1 r1 => ?_
  refine p1 M σ H1 _ c1 fun vs cs H2 p2 c2 e2 r2 => ?_
  obtain ⟨rfl, a, ha, p⟩ := p2
  cases r2 with
  | cons q1 r3 =>
  cases r3 with
  | cons q2 r4 =>
  cases r4
  cases q1
  cases q2
  refine ⟨sz_of (by decide), fun T hT => ?_⟩
  have s := same_new (o := HO.tup [V.ty "list", V.ty "tuple"]) hT
  have tx : TyX F.K (upd H2 T (.tup [V.ty "list", V.ty "tuple"])) v (.type a) := tyX_of ((r1.mono (hd_step c1 e2)).mono ((same_hd M H2).trans s)) ha
  refine ⟨v, T, _, .type a, [.type "list", .type "tuple"], isTy a "list" || isTy a "tuple", rfl, upd_same, .cons (.ty _) (.cons (.ty _) .nil), tx, ?_, q _ _ _ p (c2.same s) ((e1.trans e2).trans (StepB.of s)) (.bl _)⟩
  have hm := tyName_mem ha
  refine kitAny_cons (kit_ty (kit_isTy hm (by decide))) (fun h1 => ?_) (fun h1 => by rw [h1]; rfl)
  rw [h1, Bool.false_or]
  refine kitAny_cons (kit_ty (kit_isTy hm (by decide))) (fun h2 => ?_) (fun h2 => h2)
  rw [h2]
  exact kitAny_nil

def preL : Nat → List D → Prop
  | 0 => fun _ => False
  | n + 1 => preLike n
theorem isTy_of {d : D} {a : String} (h : tyName d = some a) (n : String) : isTy a n = isD d n := by unfold isD; rw [h]
theorem pairs_get {xs ys : List D} {i : Nat} {d : D} (h : (pairs xs ys)[i]? = some d) : ∃ x y, xs[i]? = some x ∧ ys[i]? = some y ∧ d = .tup [x, y] := by
  unfold pairs at h
  rw [List.getElem?_map] at h
  cases e : (xs.zip ys)[i]? with
  | none => rw [e] at h; cases h
  | some p =>
    rw [e] at h
    obtain ⟨h1, h2⟩ := List.getElem?_zip_eq_some.mp e
    exact ⟨p.1, p.2, h1, h2, (Option.some.inj h).symm⟩
theorem ok_like_ {P : Program} {w : World} {K : PySem.W.Frag} {mg : Str → Option Value} {base : Heap} (T : Txt K mg) (n : Nat) (G : FnOk P w K mg base CX0 n T.f_like T.fd_like ["_law_found", "_law_due"] (spD K (preL n) postLike)) :
    FnOk P w K mg base CX0 (n + 1) T.f_like T.fd_like ["_law_found", "_law_due"] (spD K (preLike n) postLike) := by
  refine T.F_like.ok sc_like (spD_len fun ds ⟨x, y, e, _⟩ => by rw [e]; rfl) (fun cdv A outer s H vs Q E hr h => ?_)
  refine ⟨_, (pss_cons (ps_if (pt_val (pe_callB (callIsiT K) (by rfl) T.b_isinstance (by decide +kernel) (pa_cons (pv 1) (pa_cons (pe_tup (pa_cons (pe_bltn (v := .ty "list") (by rfl) T.b_list (by decide +kernel) rfl) (pa_cons (pe_bltn (v := .ty "tuple") (by rfl) T.b_tuple (by decide +kernel) rfl) pa_nil))) pa_nil)))) (pss_cons (ps_if (PW.pt (pw_or (pt_cmpR op_ne (pe_callB (callIsi K) (by rfl) T.b_isinstance (by decide +kernel) (pa_cons (pv 0) (pa_cons (pe_bltn (v := .ty "list") (by rfl) T.b_list (by decide +kernel) rfl) pa_nil))) (pe_callB (callIsi K) (by rfl) T.b_isinstance (by decide +kernel) (pa_cons (pv 1) (pa_cons (pe_bltn (v := .ty "list") (by rfl) T.b_list (by decide +kernel) rfl) pa_nil))) (nomark _)) (pw_or1 (pt_cmpR op_ne (pe_callB (callIsi K) (by rfl) T.b_isinstance (by decide +kernel) (pa_cons (pv 0) (pa_cons (pe_bltn (v := .ty "tuple") (by rfl) T.b_tuple (by decide +kernel) rfl) pa_nil))) (pe_callB (callIsi K) (by rfl) T.b_isinstance (by decide +kernel) (pa_cons (pv 1) (pa_cons (pe_bltn (v := .ty "tuple") (by rfl) T.b_tuple (by decide +kernel) rfl) pa_nil))) (nomark _))))) (pss_one (ps_ret pe_bl)) pss_nil)
      (pss_one (ps_ret (pe_and (pe_cmpR op_eq (pe_callB (callLen K) (by rfl) T.b_len (by decide +kernel) (pa_cons (pv 0) pa_nil)) (pe_callB (callLen K) (by rfl) T.b_len (by decide +kernel) (pa_cons (pv 1) pa_nil)) (nomark _)) (pe_one (pe_callB (callAll K) (by rfl) T.b_all (by decide +kernel) (pa_cons (pe_lc (own := [("_law_one", 2), ("_law_other", 3)]) rfl sc_like.nd (pi_zipA (by rfl) T.b_zip (pa_cons (pv 0) (pa_cons (pv 1) pa_nil))) (blkOk_by (N := N_like) (sc := defScope s_like) (by decide +kernel)) (fun _ _ _ _ _ => (pgTup K (n := 2) rfl (pgs_cons (pg_name (i := 2) sc_like.nd rfl (Or.inl rfl)) (pgs_cons (pg_name (i := 3) sc_like.nd rfl (Or.inl rfl)) pgs_nil)))) (fun _ _ _ _ _ => pts_nil) (fun _ _ _ _ _ => (pe_call G hr rfl T.g_like T.k_like T.bd_like .nil pass0 (pa_cons (pv 2) (pa_cons (pv 3) pa_nil))))) pa_nil))))))) pss_nil)
    (pss_cons (ps_if (PW.pt (pw_or (pt_cmpR op_isN (pv 1) pe_non (nomark _)) (pw_or1 (pt_cmpR op_isN (pv 0) pe_non (nomark _))))) (pss_one (ps_ret (pe_and (pe_cmpR op_isN (pv 1) pe_non (nomark _)) (pe_one (pe_cmpR op_isN (pv 0) pe_non (nomark _)))))) pss_nil)
    (pss_cons (ps_if (PW.pt (pw_or (pt_cmpR op_ne (pe_callB (callIsi K) (by rfl) T.b_isinstance (by decide +kernel) (pa_cons (pv 0) (pa_cons (pe_bltn (v := .ty "bool") (by rfl) T.b_bool (by decide +kernel) rfl) pa_nil))) (pe_callB (callIsi K) (by rfl) T.b_isinstance (by decide +kernel) (pa_cons (pv 1) (pa_cons (pe_bltn (v := .ty "bool") (by rfl) T.b_bool (by decide +kernel) rfl) pa_nil))) (nomark _)) (pw_or1 (pt_cmpR op_ne (pe_callB (callIsi K) (by rfl) T.b_isinstance (by decide +kernel) (pa_cons (pv 0) (pa_cons (pe_bltn (v := .ty "int") (by rfl) T.b_int (by decide +kernel) rfl) pa_nil))) (pe_callB (callIsi K) (by rfl) T.b_isinstance (by decide +kernel) (pa_cons (pv 1) (pa_cons (pe_bltn (v := .ty "int") (by rfl) T.b_int (by decide +kernel) rfl) pa_nil))) (nomark _))))) (pss_one (ps_ret pe_bl)) pss_nil)
    (pss_one (ps_ret (pe_and (pe_cmpR op_eq (pe_callB (callIsi K) (by rfl) T.b_isinstance (by decide +kernel) (pa_cons (pv 0) (pa_cons (pe_bltn (v := .ty "str") (by rfl) T.b_str (by decide +kernel) rfl) pa_nil))) (pe_callB (callIsi K) (by rfl) T.b_isinstance (by decide +kernel) (pa_cons (pv 1) (pa_cons (pe_bltn (v := .ty "str") (by rfl) T.b_str (by decide +kernel) rfl) pa_nil))) (nomark _)) (pe_one (pe_cmpR op_eq (pv 0) (pv 1) (nomark _))))))))), ?_⟩
  refine enterD h fun M ds pre _ => ?_
  obtain ⟨x, y, rfl, px, py, hd⟩ := pre
  obtain ⟨a, ha⟩ := ty_of px
  obtain ⟨b, hb⟩ := ty_of py
  have isx : ∀ {n : String} {P : D → Prop}, n ∈ tyAsk → P (.bl (isD x n)) → CallD K (rIsi K) [x, .ty n] P := fun hn p => cd_isi ha hn p
  have isy : ∀ {n : String} {P : D → Prop}, n ∈ tyAsk → P (.bl (isD y n)) → CallD K (rIsi K) [y, .ty n] P := fun hn p => cd_isi hb hn p
  refine do_seq (do_if (et_B (ev_isiT (ev_var rfl ?_))))
  refine ea_cons (ev_ty (ea_cons (ev_ty (ea_nil ⟨rfl, b, hb, _, rfl, fun hl => ?_, fun hl => ?_⟩))))
  · -- a list or a tuple is due
    have hdy : isD y "list" = true ∨ isD y "tuple" = true := by
      rw [isTy_of hb, isTy_of hb, Bool.or_eq_true] at hl
      exact hl
    refine do_seq (do_if (et_or (et_test ?_)))
    repeat (first | walk_at "ev" | refine isx (by decide) ?_ | refine isy (by decide) ?_)
    refine ⟨_, rfl, fun h1 => et_test ?_, fun h1 => ⟨fun _ => ?_, fun h => nomatch h⟩⟩
    · repeat (first | walk_at "ev" | refine isx (by decide) ?_ | refine isy (by decide) ?_)
      refine ⟨_, rfl, fun h2 => ?_, fun h2 => ?_⟩
      · refine do_ret (ev_bl ⟨x, y, rfl, ?_⟩)
        cases x <;> cases y <;> first | rfl | (simp [isD, tyName, isTy] at h1 h2 hdy)
      · refine do_next ?_
        obtain ⟨xs, ys, hxy⟩ : ∃ xs ys, (x = .lst xs ∧ y = .lst ys) ∨ (x = .tup xs ∧ y = .tup ys) := by
          cases x <;> cases y <;> first | exact ⟨_, _, .inl ⟨rfl, rfl⟩⟩ | exact ⟨_, _, .inr ⟨rfl, rfl⟩⟩ | (simp [isD, tyName, isTy] at h1 h2 hdy)
        have hlx : lenD x = some xs.length := by rcases hxy with ⟨rfl, _⟩ | ⟨rfl, _⟩ <;> rfl
        have hly : lenD y = some ys.length := by rcases hxy with ⟨_, rfl⟩ | ⟨_, rfl⟩ <;> rfl
        have pxs : xs.length ≤ 10000 ∧ plL xs = true := by
          rcases hxy with ⟨rfl, _⟩ | ⟨rfl, _⟩ <;> (simp only [plD, Bool.and_eq_true, decide_eq_true_eq] at px; exact px)
        have pys : ys.length ≤ 10000 ∧ plL ys = true := by
          rcases hxy with ⟨_, rfl⟩ | ⟨_, rfl⟩ <;> (simp only [plD, Bool.and_eq_true, decide_eq_true_eq] at py; exact py)
        have hdl : depL ys + 1 ≤ n := by
          rcases hxy with ⟨_, rfl⟩ | ⟨_, rfl⟩ <;> (simp only [dep] at hd; exact hd)
        have hlk : likeD x y = likeL xs ys := by rcases hxy with ⟨rfl, rfl⟩ | ⟨rfl, rfl⟩ <;> simp only [likeD]
        obtain ⟨k, rfl⟩ : ∃ k, n = k + 1 := ⟨n - 1, by omega⟩
        refine do_ret ?_
        repeat (first | walk_at "ev" | refine cd_lenK hlx (by omega) ?_ | refine cd_lenK hly (by omega) ?_)
        refine ⟨_, rfl, fun h3 => ?_, fun h3 => ⟨x, y, rfl, ?_⟩⟩
        · have hxl : xs.length = ys.length := by
            have := of_decide_eq_true h3
            omega
          refine ev_cb (ea_cons (EvN.ev ?_))
          refine en_lc (js := [2, 3]) (PX := fun l => l = pairs xs ys) (it_zipA ?_) (fun l e => ?_) (by decide) (fun l i acc => acc = (((xs.zip ys).take i).map fun p => D.bl (likeD p.1 p.2))) (fun l e => rfl) ?_ ?_
          · refine ea_cons (ev_var rfl (ea_cons (ev_var rfl (ea_nil ⟨xs, ys, ?_, rfl⟩))))
            rcases hxy with ⟨rfl, rfl⟩ | ⟨rfl, rfl⟩
            · exact .inl rfl
            · exact .inr rfl
          · subst e
            unfold pairs
            rw [List.length_map, List.length_zip]
            omega
          · rintro l i d acc rfl hi rfl
            obtain ⟨u, v, hu, hv, rfl⟩ := pairs_get hi
            refine tg_tup rfl ?_
            refine tgs_cons (tg_name (tgs_cons (tg_name (tgs_nil ?_))))
            refine et_yes ⟨fun _ => ?_, fun h => nomatch h⟩
            refine ev_call ?_
            refine ea_cons (ev_var rfl (ea_cons (ev_var rfl (ea_nil ⟨⟨u, v, rfl, plL_get pxs.2 hu, plL_get pys.2 hv, ?_⟩, fun d hd => ?_⟩))))
            · have := depL_get hv
              omega
            · obtain ⟨u', v', e, rfl⟩ := hd
              cases e
              have hz : (xs.zip ys)[i]? = some (u, v) := List.getElem?_zip_eq_some.mpr ⟨hu, hv⟩
              rw [List.take_succ, hz]
              simp
          · rintro l ds rfl rfl
            have hfull : ((xs.zip ys).take (pairs xs ys).length) = xs.zip ys := by
              unfold pairs
              rw [List.length_map, List.take_length]
            rw [hfull]
            have : ((xs.zip ys).map fun p => D.bl (likeD p.1 p.2)) = blD ((xs.zip ys).map fun p => likeD p.1 p.2) := by unfold blD; rw [List.map_map]; rfl
            rw [this]
            refine ea_nil (cd_all ⟨x, y, rfl, ?_⟩)
            rw [hlk, likeL_zip hxl]
        · have : likeL xs ys = false := by
            cases e : likeL xs ys with
            | false => rfl
            | true =>
              have := likeL_len e
              rw [this] at h3
              simp at h3
          rw [hlk, this]
    · refine do_ret (ev_bl ⟨x, y, rfl, ?_⟩)
      cases x <;> cases y <;> first | rfl | (simp [isD, tyName, isTy] at h1 hdy)
  · -- a scalar is due
    refine do_next ?_
    have hny : isD y "list" = false ∧ isD y "tuple" = false := by
      rw [isTy_of hb, isTy_of hb, Bool.or_eq_false_iff] at hl
      exact hl
    refine do_seq (do_if (et_or (et_test ?_)))
    repeat walk_at "ev"
    refine ⟨_, rfl, fun h1 => et_test ?_, fun h1 => ⟨fun _ => ?_, fun h => nomatch h⟩⟩
    · repeat walk_at "ev"
      refine ⟨_, rfl, fun h2 => ?_, fun h2 => ?_⟩
      · refine do_ret ?_
        repeat walk_at "ev"
        refine ⟨_, rfl, fun h3 => ?_, fun _ => ⟨x, y, rfl, ?_⟩⟩
        · rw [h1] at h3
          cases h3
        · cases x <;> cases y <;> first | rfl | (simp [isNon, isD, tyName, isTy] at h1 h2 hny)
      · refine do_next ?_
        refine do_seq (do_if (et_or (et_test ?_)))
        repeat (first | walk_at "ev" | refine isx (by decide) ?_ | refine isy (by decide) ?_)
        refine ⟨_, rfl, fun h3 => et_test ?_, fun h3 => ⟨fun _ => ?_, fun h => nomatch h⟩⟩
        · repeat (first | walk_at "ev" | refine isx (by decide) ?_ | refine isy (by decide) ?_)
          refine ⟨_, rfl, fun h4 => ?_, fun h4 => ?_⟩
          · refine do_ret (ev_bl ⟨x, y, rfl, ?_⟩)
            cases x <;> cases y <;> first | rfl | (simp [isNon, isD, tyName, isTy] at h1 h2 h3 h4 hny)
          · refine do_next (do_ret ?_)
            refine ev_and ?_
            repeat (first | walk_at "ev" | refine isx (by decide) ?_ | refine isy (by decide) ?_)
            refine ⟨_, rfl, fun h5 => ?_, fun h5 => ⟨x, y, rfl, ?_⟩⟩
            · refine ev_op (ev_var rfl (ev_var rfl ?_))
              cases x <;> cases y <;> first
                | (simp [isNon, isD, tyName, isTy] at h1 h2 h3 h4 h5 hny; done)
                | exact od_eq_bl ⟨_, _, rfl, by simp only [likeD, Bool.beq_eq_decide_eq]⟩
                | exact od_eq_int ⟨_, _, rfl, by simp only [likeD, Bool.beq_eq_decide_eq]⟩
                | exact od_eq_str ⟨_, _, rfl, by simp only [likeD]⟩
                | (simp [plD] at px; done)
                | (simp [plD] at py; done)
            · cases x <;> cases y <;> first | rfl | (simp [isNon, isD, tyName, isTy] at h1 h2 h3 h4 h5 hny)
        · refine do_ret (ev_bl ⟨x, y, rfl, ?_⟩)
          cases x <;> cases y <;> first | rfl | (simp [isNon, isD, tyName, isTy] at h1 h2 h3 hny)
    · refine do_ret ?_
      repeat walk_at "ev"
      refine ⟨_, rfl, fun h3 => ?_, fun h3 => ⟨x, y, rfl, ?_⟩⟩
      · repeat walk_at "ev"
        refine ⟨x, y, rfl, ?_⟩
        cases x <;> cases y <;> first | rfl | (simp [isNon] at h1)
      · rw [h1] at h3
        cases h3
theorem ok_like {P : Program} {w : World} {K : PySem.W.Frag} {mg : Str → Option Value} {base : Heap} (T : Txt K mg) : ∀ n, FnOk P w K mg base CX0 (n + 1) T.f_like T.fd_like ["_law_found", "_law_due"] (spD K (preLike n) postLike) := by
  intro n
  induction n with
  | zero => exact ok_like_ T 0 ⟨fun vs H Q E ⟨_, _, _, _, p, _⟩ => p.elim, fun A outer s H args us vs Q E _ _ _ _ ⟨_, _, _, _, p, _⟩ => p.elim⟩
  | succ n ih => exact ok_like_ T (n + 1) ih
/-! ### the bag is made -/
def spOpen (K : PySem.W.Frag) : Sp := fun vs H Q _ => ∃ (a : Addr) (ns : List Int), vs = [.ref a] ∧ SqL K H a (ns.map V.int) ∧ ns.length ≤ 63 ∧ ∀ b c H', H b = none → Same H H' → BagAt H' b c → Q (.ref b) H'
theorem cut63 {ns : List Int} (h : ns.length ≤ 63) : cutV (ns.map V.int) none (some 63) = ns.map V.int := by
  unfold cutV
  have e1 : HT.sIx (ns.map V.int).length 0 none = 0 := rfl
  have e2 : HT.sIx (ns.map V.int).length (ns.map V.int).length (some 63) = ns.length := by
    rw [List.length_map]
    have := HT.sIx_nat ns.length ns.length 63
    rw [show ((63 : Nat) : Int) = 63 from rfl] at this
    rw [this]
    omega
  rw [e1, e2, List.drop_zero, Nat.sub_zero]
  exact List.take_of_length_le (by rw [List.length_map]; exact Nat.le_refl _)
theorem ok_open {P : Program} {w : World} {K : PySem.W.Frag} {mg : Str → Option Value} {base : Heap} (T : Txt K mg) : FnOk P w K mg base CX0 2 T.f_open T.fd_open ["_law_script"] (spOpen K) := by
  refine T.F_open.ok sc_open (fun vs H Q E h => ?_) (fun cdv A outer s H vs Q E hr h => ?_)
  · obtain ⟨a, ns, rfl, _⟩ := h
    rfl
  refine ⟨_, (pss_one (ps_ret (pe_lst (pa_cons (pe_callTy (callList K) (by rfl) T.b_list (by decide +kernel) (pa_cons (pe_slice (slL K) (pv 0) po_none (po_some pe_int)) pa_nil)) (pa_cons pe_int (pa_cons pe_int (pa_cons pe_int (pa_cons pe_int pa_nil)))))))), ?_⟩
  obtain ⟨a, ns, rfl, hs, hn, q⟩ := h
  refine ⟨_, rfl, 63, rfl, _, _, rfl, hs, fun p hp => ?_⟩
  have s1 : Same H (upd H p (.lst (cutV (ns.map V.int) none (some 63)))) := same_new hp
  refine ⟨p, _, rfl, .inl (SqL.of upd_same), fun c hc => ?_⟩
  refine ⟨sz_of (show 5 ≤ 100000 by decide), fun b hb => ?_⟩
  have hcp : c ≠ p := fun e => by
    rw [e, upd_same] at hc
    cases hc
  have hbc : c ≠ b := fun e => by
    rw [← e, upd_same] at hb
    cases hb
  refine q b c _ ?_ (fun x o h => ?_) ⟨ns, 0, 0, 100081, 0, upd_same, hbc, by rw [upd_ne hbc, upd_same, cut63 hn], Nat.zero_le _, hn, Int.le_refl _, by decide, by decide, Int.le_refl _⟩
  · cases z : H b with
    | none => rfl
    | some o =>
      have h1 : b ≠ p := ne_of_none z hp
      have h2 : (upd H p (.lst (cutV (ns.map V.int) none (some 63)))) b = some o := by rw [upd_ne h1]; exact z
      have h3 : b ≠ c := ne_of_none h2 hc
      rw [upd_ne h3, h2] at hb
      cases hb
  · have h2 := s1 x o h
    have h3 : (upd (upd H p (.lst (cutV (ns.map V.int) none (some 63)))) c (.lst (cutV (ns.map V.int) none (some 63)))) x = some o := by rw [upd_ne (ne_of_none h2 hc)]; exact h2
    rw [upd_ne (ne_of_none h3 hb)]
    exact h3
/-! ### the law's own frame: the bag in slot 1, nothing else known -/
/-- slots forgotten ahead of what follows -/
theorem Ctx.forget1 {F : Fm} {M : Addr → Bool} {σ : L2.St} {H : Hp} {δ : List SD} (c : Ctx F M σ H δ) (i : Nat) : Ctx F M σ H (δ.set i .un) := by
  refine ⟨c.al, c.al0, c.m0, c.fr, c.bg, by rw [List.length_set, c.ln], fun j x hx => ?_, fun j k x y p h1 h2 hp hq => ?_, fun j x p h hp => ?_⟩
  · rcases set_key hx with ⟨rfl, rfl, hl⟩ | ⟨hj, hx⟩
    · exact ⟨σ[i]'(by rw [c.ln]; exact hl), by simp, trivial⟩
    · exact c.sl j x hx
  · rcases set_key h1 with ⟨_, z, _⟩ | ⟨_, h1⟩
    · subst z; cases hp
    rcases set_key h2 with ⟨_, z, _⟩ | ⟨_, h2⟩
    · subst z; cases hq
    exact c.dj j k x y p h1 h2 hp hq
  · rcases set_key h with ⟨_, z, _⟩ | ⟨_, h⟩
    · subst z; cases hp
    exact c.oh j x p h hp
theorem Ctx.forget {F : Fm} {M : Addr → Bool} {σ : L2.St} {H : Hp} {δ : List SD} (c : Ctx F M σ H δ) : ∀ js : List Nat, Ctx F M σ H (wipeD δ js)
  | [] => c
  | j :: js => (Ctx.forget c js).forget1 j
theorem do_wk {F : Fm} {t : TS} {δ : List SD} {R : PD} (js : List Nat) (h : Do F t δ { R with nx := fun δ' => R.nx (wipeD δ' js), ct := fun δ' => R.ct (wipeD δ' js), bk := fun δ' => R.bk (wipeD δ' js) }) : Do F t δ R := fun M σ H E c a b k d =>
  h M σ H E c (fun M' σ' H' δ' p c' s => a M' σ' H' _ p (c'.forget js) s) b (fun M' σ' H' δ' p c' s => k M' σ' H' _ p (c'.forget js) s) (fun M' σ' H' δ' p c' s => d M' σ' H' _ p (c'.forget js) s)
/-- x = e, then the rest: what e is first -/
theorem do_letP {F : Fm} {te : TE} {u : TS} {δ : List SD} {R : PD} {i : Nat} (P : D → Prop) (h : Ev F te δ P) (k : ∀ x, P x → Do F u (δ.set i (.dat x)) R) : Do F (tSeq (tAsg te (gName i)) u) δ R :=
  do_seq (do_set (h.imp fun x p => k x p))
theorem do_let {F : Fm} {te : TE} {u : TS} {δ : List SD} {R : PD} {i : Nat} (v : D) (h : Ev F te δ (· = v)) (k : Do F u (δ.set i (.dat v)) R) : Do F (tSeq (tAsg te (gName i)) u) δ R :=
  do_letP _ h fun x e => by rw [e]; exact k
section
variable {F : Fm} {δ : List SD} {ta : TA} {P : D → Prop} {E : XK} {i : Nat} {b : Addr}
theorem ev_draw (hb : F.B = some b) (hi : δ[i]? = some .bag) (h : EvA F ta δ fun ds => ∃ m, ds = [.int m] ∧ 0 < m ∧ m < 1073741824 ∧ ∀ r, 0 ≤ r → r < m → P (.int r)) : Ev F (tCall (spB F.K preDraw postDraw) [] E (tCons (tVar i) ta)) δ P :=
  ev_callB hb hi (h.imp fun ds ⟨m, e, h0, h1, p⟩ => ⟨⟨m, e, h0, h1⟩, fun d ⟨m', r, e', e2, h2, h3⟩ => by
    subst e
    cases e'
    subst e2
    exact p r h2 h3⟩)
theorem ev_of (hb : F.B = some b) (hi : δ[i]? = some .bag) (h : EvA F ta δ fun ds => ∃ x n, ds = [x] ∧ lenD x = some n ∧ 0 < n ∧ n ≤ 100000 ∧ ∀ k d, 0 ≤ k → k < (n : Int) → atD x k = some d → P d) : Ev F (tCall (spB F.K preOf postOf) [] E (tCons (tVar i) ta)) δ P :=
  ev_callB hb hi (h.imp fun ds ⟨x, n, e, h0, h1, h2, p⟩ => ⟨⟨x, n, e, h0, h1, h2⟩, fun d ⟨x', n', k, e', e2, h3, h4, h5⟩ => by
    subst e
    cases e'
    rw [h0] at e2
    cases e2
    exact p k d h3 h4 h5⟩)
theorem atI_mem {α : Type} {xs : List α} {k : Int} {d : α} (h : atI xs k = some d) : d ∈ xs := by
  obtain ⟨j, _, h2, _⟩ := atI_get h
  exact List.mem_of_getElem? h2
/-- one of a list | of a text -/
theorem ev_ofL (hb : F.B = some b) (hi : δ[i]? = some .bag) (h : EvA F ta δ fun ds => ∃ xs, ds = [.lst xs] ∧ xs ≠ [] ∧ xs.length ≤ 100000 ∧ ∀ d ∈ xs, P d) : Ev F (tCall (spB F.K preOf postOf) [] E (tCons (tVar i) ta)) δ P :=
  ev_of hb hi (h.imp fun ds ⟨xs, e, h0, h1, p⟩ => ⟨_, xs.length, e, rfl, List.length_pos_iff.mpr h0, h1, fun k d _ _ h2 => p d (atI_mem h2)⟩)
theorem ev_like {n : Nat} (h : EvA F ta δ fun ds => ∃ x y, ds = [x, y] ∧ plD x = true ∧ plD y = true ∧ dep y ≤ n ∧ P (.bl (likeD x y))) : Ev F (tCall (spD F.K (preLike n) postLike) [] E ta) δ P :=
  ev_call (h.imp fun ds ⟨x, y, e, h0, h1, h2, p⟩ => ⟨⟨x, y, e, h0, h1, h2⟩, fun d ⟨x', y', e', e2⟩ => by
    subst e
    cases e'
    subst e2
    exact p⟩)
end
/-! texts -/
/-! ### numbers and names -/
def isWh (x : D) : Bool := match x with
  | .int _ => true | _ => false
def isNum (x : D) (lo hi : Int) : Bool := match x with
  | .int i => decide (lo ≤ i) && decide (i ≤ hi) | _ => false
def preWh : List D → Prop := fun ds => ∃ x, ds = [x] ∧ plD x = true
def postWh : List D → D → Prop := fun ds d => ∃ x, ds = [x] ∧ d = .bl (isWh x)
theorem ok_is_whole {P : Program} {w : World} {K : PySem.W.Frag} {mg : Str → Option Value} {base : Heap} (T : Txt K mg) : FnOk P w K mg base CX0 1 T.f_is_whole T.fd_is_whole ["value"] (spD K preWh postWh) := by
  refine T.F_is_whole.ok sc_is_whole (spD_len fun ds ⟨x, e, _⟩ => by rw [e]; rfl) (fun cdv A outer s H vs Q E hr h => ?_)
  refine ⟨_, (pss_one (ps_ret (pe_and (pe_callB (callIsi K) (by rfl) T.b_isinstance (by decide +kernel) (pa_cons (pv 0) (pa_cons (pe_bltn (v := .ty "int") (by rfl) T.b_int (by decide +kernel) rfl) pa_nil))) (pe_one (pe_not (pe_callB (callIsi K) (by rfl) T.b_isinstance (by decide +kernel) (pa_cons (pv 0) (pa_cons (pe_bltn (v := .ty "bool") (by rfl) T.b_bool (by decide +kernel) rfl) pa_nil)))))))), ?_⟩
  refine enterD h fun M ds pre _ => ?_
  obtain ⟨x, rfl, px⟩ := pre
  obtain ⟨a, ha⟩ := ty_of px
  have isx : ∀ {n : String} {P : D → Prop}, n ∈ tyAsk → P (.bl (isD x n)) → CallD K (rIsi K) [x, .ty n] P := fun hn p => cd_isi ha hn p
  refine do_ret ?_
  repeat (first | walk_at "ev" | refine isx (by decide) ?_)
  refine ⟨_, rfl, fun h1 => ?_, fun h1 => ⟨x, rfl, ?_⟩⟩
  · repeat (first | walk_at "ev" | refine isx (by decide) ?_)
    refine ⟨_, rfl, ⟨x, rfl, ?_⟩⟩
    cases x <;> first | rfl | (simp [isD, tyName, isTy] at h1)
  · cases x <;> first | rfl | (simp [isD, tyName, isTy] at h1)
def preNum : List D → Prop := fun ds => ∃ x lo hi, ds = [x, .int lo, .int hi] ∧ plD x = true
def postNum : List D → D → Prop := fun ds d => ∃ x lo hi, ds = [x, .int lo, .int hi] ∧ d = .bl (isNum x lo hi)
theorem ok_is_number {P : Program} {w : World} {K : PySem.W.Frag} {mg : Str → Option Value} {base : Heap} (T : Txt K mg) : FnOk P w K mg base CX0 2 T.f_is_number T.fd_is_number ["value", "least", "most"] (spD K preNum postNum) := by
  refine T.F_is_number.ok sc_is_number (spD_len fun ds ⟨x, lo, hi, e, _⟩ => by rw [e]; rfl) (fun cdv A outer s H vs Q E hr h => ?_)
  refine ⟨_, (pss_one (ps_ret (pe_and (pe_call (ok_is_whole T) (hr.mono (by decide)) rfl T.g_is_whole T.k_is_whole T.bd_is_whole .nil pass0 (pa_cons (pv 0) pa_nil)) (pe_one (pe_chain op_le op_le (pv 1) (pv 0) (pv 2)))))), ?_⟩
  refine enterD h fun M ds pre _ => ?_
  obtain ⟨x, lo, hi, rfl, px⟩ := pre
  refine do_ret (ev_and (ev_call (ea_cons (ev_var rfl (ea_nil ⟨⟨x, rfl, px⟩, fun d hd => ?_⟩)))))
  obtain ⟨x', e', rfl⟩ := hd
  cases e'
  refine ⟨_, rfl, fun h1 => ?_, fun h1 => ⟨x, lo, hi, rfl, ?_⟩⟩
  · obtain ⟨i, rfl⟩ : ∃ i, x = .int i := by
      cases x <;> first | exact ⟨_, rfl⟩ | cases h1
    repeat walk_at "ev"
    refine ⟨_, rfl, fun h3 => ?_, fun h3 => ⟨_, lo, hi, rfl, ?_⟩⟩
    · repeat walk_at "ev"
      refine ⟨_, lo, hi, rfl, ?_⟩
      simp only [isNum, h3, Bool.true_and]
    · simp only [isNum, h3, Bool.false_and]
  · cases x <;> first | rfl | cases h1

end Pf

set_option maxHeartbeats 16000000
namespace Pf
open PySem L2 PfL RZ
local macro_rules | `(tactic| walk_at "ev") => `(tactic| first
  | ((with_reducible refine' ev_var ?h ?_); (case h => rfl))
  | with_reducible refine ev_int ?_
  | with_reducible refine ev_bl ?_
  | with_reducible refine ev_str ?_
  | with_reducible refine ev_non ?_
  | with_reducible refine ev_ty ?_
  | with_reducible refine ev_op ?_
  | with_reducible refine ev_un ?_
  | with_reducible refine ev_chain ?_
  | with_reducible refine ev_if ?_
  | with_reducible refine ev_and ?_
  | with_reducible refine ev_or ?_
  | with_reducible refine ev_not ?_
  | with_reducible refine ev_lst ?_
  | with_reducible refine ev_tup ?_
  | with_reducible refine ea_nil ?_
  | with_reducible refine ea_cons ?_
  | with_reducible refine ev_cb ?_
  | with_reducible refine et_test ?_
  | with_reducible refine et_B ?_
  | with_reducible refine et_and ?_
  | with_reducible refine et_or ?_
  | with_reducible refine et_not ?_
  | with_reducible refine et_yes ?_
  | with_reducible refine eo_none ?_
  | with_reducible refine eo_some ?_
  | with_reducible refine ev_slS ?_
  | with_reducible refine od_int ?_
  | with_reducible refine od_bl ?_
  | with_reducible refine od_eq_int ?_
  | with_reducible refine od_ne_int ?_
  | with_reducible refine od_eq_bl ?_
  | with_reducible refine od_ne_bl ?_
  | with_reducible refine od_eq_str ?_
  | with_reducible refine od_ne_str ?_
  | with_reducible refine od_leS ?_
  | with_reducible refine ud_isN ?_
  | with_reducible refine ud_notN ?_
  | with_reducible refine do_seq ?_
  | with_reducible refine do_set ?_
  | with_reducible refine do_ret ?_
  | with_reducible refine do_retN ?_
  | with_reducible refine do_if ?_
  | with_reducible refine do_next ?_
  | with_reducible refine tg_name ?_
  | with_reducible refine tgs_nil ?_
  | with_reducible refine tgs_cons ?_)
/-! ### _law_field, _law_try, _law_tries -/
abbrev ctT {K : PySem.W.Frag} {mg : Str → Option Value} (T : Txt K mg) : List Value := [.ref T.c_PartError, .ref T.c_Missing, .ref T.c_NothingLeft]
theorem field_at {K : PySem.W.Frag} {ct : List Value} {C : Addr} {gs : List (Str × D)} {n f : Str} {x : D} (ei : ErrIs K ct C gs n x) (h : fieldOf n = some f) : List.lookup f gs = some x := by
  have := ei.fd
  rw [h] at this
  exact this
theorem field_no {K : PySem.W.Frag} {ct : List Value} {C : Addr} {gs : List (Str × D)} {n : Str} {x : D} (ei : ErrIs K ct C gs n x) (h : fieldOf n = none) : x = .non := by
  have := ei.fd
  rw [h] at this
  exact this
theorem fn_field {P : Program} {w : World} {K : PySem.W.Frag} {mg : Str → Option Value} {base : Heap} (T : Txt K mg) {a : Addr} {oe : Obj} {C dx : Addr} (hz : Zc (.ref C) (some dx) oe) (hf : ∃ vs, oe.data = .fields vs) (cl : ExcC K C) :
    PfT.FnE P w K mg base CX0 1 T.f_field T.fd_field ["_law_e"] (a, oe) (spField K (ctT T) C a dx) := by
  refine PfT.fnE_of T.F_field sc_field (fun vs H Q E h => ?_) (fun cdv A outer s H vs Q E hr h => ?_)
  · obtain ⟨_, _, _, _, _, rfl, _⟩ := h
    rfl
  obtain ⟨M, fvs, gs, n, x, rfl, al, hdx, rf, ei, q⟩ := h
  have na : ∀ f ∈ errNames, PySem.W.findIn K (.ref C) f = some none := ei.na
  refine ⟨_, (pss_cons (ps_if (pt_cmpR (opIn K) (PfT.pe_xfp (.head _) hz hf cl (na _ (by decide)) (pv 0)) (pe_lst (pa_cons pe_str (pa_cons pe_str (pa_cons pe_str (pa_cons pe_str pa_nil))))) (by with_unfolding_all rfl)) (pss_one (ps_ret (PfT.pe_xfp (.head _) hz hf cl (na _ (by decide)) (pv 0)))) pss_nil)
    (pss_cons (ps_if (pt_cmpR (opIn K) (PfT.pe_xfp (.head _) hz hf cl (na _ (by decide)) (pv 0)) (pe_lst (pa_cons pe_str (pa_cons pe_str pa_nil))) (by with_unfolding_all rfl)) (pss_one (ps_ret (PfT.pe_xfp (.head _) hz hf cl (na _ (by decide)) (pv 0)))) pss_nil)
    (pss_cons (ps_if (pt_cmpR (opIn K) (PfT.pe_xfp (.head _) hz hf cl (na _ (by decide)) (pv 0)) (pe_lst (pa_cons pe_str (pa_cons pe_str pa_nil))) (by with_unfolding_all rfl)) (pss_one (ps_ret (PfT.pe_xfp (.head _) hz hf cl (na _ (by decide)) (pv 0)))) pss_nil)
    (pss_cons (ps_if (pt_cmpR (opIn K) (PfT.pe_xfp (.head _) hz hf cl (na _ (by decide)) (pv 0)) (pe_lst (pa_cons pe_str (pa_cons pe_str (pa_cons pe_str pa_nil)))) (by with_unfolding_all rfl)) (pss_one (ps_ret pe_non)) pss_nil)
    (pss_cons (ps_if (pt_cmpR (opIn K) (PfT.pe_xfp (.head _) hz hf cl (na _ (by decide)) (pv 0)) (pe_lst (pa_cons pe_str (pa_cons pe_str pa_nil))) (by with_unfolding_all rfl)) (pss_one (ps_ret (pe_ifExp (pt_cmpR op_eq (PfT.pe_xfp (.head _) hz hf cl (na _ (by decide)) (pv 0)) pe_str (nomark _)) (PfT.pe_xfp (.head _) hz hf cl (na _ (by decide)) (pv 0)) (PfT.pe_xfp (.head _) hz hf cl (na _ (by decide)) (pv 0))))) pss_nil)
    (pss_cons (ps_if (pt_cmpR (opIn K) (PfT.pe_xfp (.head _) hz hf cl (na _ (by decide)) (pv 0)) (pe_lst (pa_cons pe_str (pa_cons pe_str pa_nil))) (by with_unfolding_all rfl)) (pss_one (ps_ret (pe_ifExp (pt_cmpR op_eq (PfT.pe_xfp (.head _) hz hf cl (na _ (by decide)) (pv 0)) pe_str (nomark _)) (PfT.pe_xfp (.head _) hz hf cl (na _ (by decide)) (pv 0)) (PfT.pe_xfp (.head _) hz hf cl (na _ (by decide)) (pv 0))))) pss_nil)
    (pss_one (ps_ret (PfT.pe_xfp (.head _) hz hf cl (na _ (by decide)) (pv 0)))))))))), ?_⟩
  obtain ⟨hk, rl⟩ := repF_keys rf
  have hs : spD K (fun ds => ds = [errD a dx fvs gs]) (fun _ d => d = x) [.ref a] H Q E := ⟨M, [errD a dx fvs gs], al, .cons (.fn (fun p hp => by
    rw [List.mem_singleton.mp hp]
    exact ⟨hdx, fun o u z => by cases z⟩) rl) .nil, rfl, fun v d H' e s r => q v H' s (e ▸ r)⟩
  refine enterD hs fun M ds pre _ => ?_
  subst pre
  have rd : ∀ {F : Fm} {f : Str} {Pd : D → Prop}, fieldOf n = some f → Pd x → Ev F (PfT.tXfp a dx f (tVar 0)) [.dat (errD a dx fvs gs)] Pd := fun h p => ev_xfp rfl hk (field_at ei h) p
  have cdE : ∀ {F : Fm} {Pd : D → Prop}, Pd (.str n) → Ev F (PfT.tXfp a dx "code" (tVar 0)) [.dat (errD a dx fvs gs)] Pd := fun p => ev_xfp rfl hk ei.cd p
  have isIn : ∀ {K : PySem.W.Frag} {zs : List Str} {P : D → Prop}, P (.bl (decide (n ∈ zs))) → OpD K (rIn K false) (.str n) (.lst (txsD zs)) P := fun p => od_inStrs (neg := false) (t := false) p
  refine do_seq (do_if (et_test (ev_op (cdE (EvN.ev (en_lst (ea_cons (ev_str (ea_cons (ev_str (ea_cons (ev_str (ea_cons (ev_str (ea_nil ⟨by simp, ?_⟩)))))))))))))))
  refine isIn (zs := ["InvalidRow", "InvalidState", "InvalidGroup", "InvalidCommand"]) ⟨_, rfl, fun h1 => ?_, fun h1 => do_next ?_⟩
  · exact do_ret (rd (by unfold fieldOf; rw [if_pos (of_decide_eq_true h1)]) rfl)
  have g1 := of_decide_eq_false h1
  refine do_seq (do_if (et_test (ev_op (cdE (EvN.ev (en_lst (ea_cons (ev_str (ea_cons (ev_str (ea_nil ⟨by simp, ?_⟩)))))))))))
  refine isIn (zs := ["DuplicateNumber", "UnknownNumber"]) ⟨_, rfl, fun h2 => ?_, fun h2 => do_next ?_⟩
  · exact do_ret (rd (by unfold fieldOf; rw [if_neg g1, if_pos (of_decide_eq_true h2)]) rfl)
  have g2 := of_decide_eq_false h2
  refine do_seq (do_if (et_test (ev_op (cdE (EvN.ev (en_lst (ea_cons (ev_str (ea_cons (ev_str (ea_nil ⟨by simp, ?_⟩)))))))))))
  refine isIn (zs := ["DuplicateName", "UnknownName"]) ⟨_, rfl, fun h3 => ?_, fun h3 => do_next ?_⟩
  · exact do_ret (rd (by unfold fieldOf; rw [if_neg g1, if_neg g2, if_pos (of_decide_eq_true h3)]) rfl)
  have g3 := of_decide_eq_false h3
  refine do_seq (do_if (et_test (ev_op (cdE (EvN.ev (en_lst (ea_cons (ev_str (ea_cons (ev_str (ea_cons (ev_str (ea_nil ⟨by simp, ?_⟩)))))))))))))
  refine isIn (zs := ["PartsDiffer", "Ended", "NothingLeft"]) ⟨_, rfl, fun h4 => ?_, fun h4 => do_next ?_⟩
  · exact do_ret (ev_non (field_no ei (by unfold fieldOf; rw [if_neg g1, if_neg g2, if_neg g3, if_pos (of_decide_eq_true h4)])).symm)
  have g4 := of_decide_eq_false h4
  refine do_seq (do_if (et_test (ev_op (cdE (EvN.ev (en_lst (ea_cons (ev_str (ea_cons (ev_str (ea_nil ⟨by simp, ?_⟩)))))))))))
  refine isIn (zs := ["InvalidText", "TooMany"]) ⟨_, rfl, fun h5 => ?_, fun h5 => do_next ?_⟩
  · have e5 : fieldOf n = some (if n = "InvalidText" then ("line" : Str) else ("most" : Str)) := by unfold fieldOf; rw [if_neg g1, if_neg g2, if_neg g3, if_neg g4, if_pos (of_decide_eq_true h5)]
    refine do_ret (ev_if (et_test (ev_op (cdE (ev_str (od_eq_str ⟨_, rfl, fun h => ?_, fun h => ?_⟩))))))
    · exact rd (by rw [e5, if_pos (of_decide_eq_true h)]) rfl
    · exact rd (by rw [e5, if_neg (of_decide_eq_false h)]) rfl
  have g5 := of_decide_eq_false h5
  refine do_seq (do_if (et_test (ev_op (cdE (EvN.ev (en_lst (ea_cons (ev_str (ea_cons (ev_str (ea_nil ⟨by simp, ?_⟩)))))))))))
  refine isIn (zs := ["WrongReader", "Full"]) ⟨_, rfl, fun h6 => ?_, fun h6 => do_next ?_⟩
  · have e6 : fieldOf n = some (if n = "WrongReader" then ("first" : Str) else ("limit" : Str)) := by unfold fieldOf; rw [if_neg g1, if_neg g2, if_neg g3, if_neg g4, if_neg g5, if_pos (of_decide_eq_true h6)]
    refine do_ret (ev_if (et_test (ev_op (cdE (ev_str (od_eq_str ⟨_, rfl, fun h => ?_, fun h => ?_⟩))))))
    · exact rd (by rw [e6, if_pos (of_decide_eq_true h)]) rfl
    · exact rd (by rw [e6, if_neg (of_decide_eq_false h)]) rfl
  have g6 := of_decide_eq_false h6
  exact do_ret (rd (by unfold fieldOf; rw [if_neg g1, if_neg g2, if_neg g3, if_neg g4, if_neg g5, if_neg g6]) rfl)
theorem ok_try {P : Program} {w : World} {K : PySem.W.Frag} {mg : Str → Option Value} {base : Heap} (T : Txt K mg) (k : Nat) : FnOk P w K mg base CX0 (k + 3) T.f_try T.fd_try ["_law_ask"] (spTry P w K mg base k (ctT T)) := by
  refine T.F_try.ok sc_try (fun vs H Q E h => spTry_len h) (fun cdv A outer s H vs Q E hr h => ?_)
  have rH := L2H.roomH_of (hr.mono (show 1 ≤ k + 2 by omega))
  refine ⟨_, pss_one (PfT.ps_try_asT (i := 1) (cs := ctT T) (Wout := fun _ _ _ _ => False) (tb := tbT P w K mg base k) (ts := tsT K (ctT T)) rfl rfl sc_try.nd rfl rfl (PfT.tells3 ⟨rfl, rfl, .inl T.g_PartError⟩ ⟨rfl, rfl, .inl T.g_Missing⟩ ⟨rfl, rfl, .inl T.g_NothingLeft⟩) LamX.takes0 (fun W pn xe _ tk _ => ?_) (fun a oe cls d pn hz hf => ?_)), try_runs rfl h⟩
  · refine pss_ex fun D σ H g => ?_
    obtain ⟨Ech, hW, g⟩ := g
    exact ⟨_, pss_one (ps_ret (pe_tup (pa_cons pe_str (pa_cons (PfL.pe_ask tk hW (hr.mono (Nat.le_add_right _ _)) rfl (.inl rfl)) pa_nil)))), g⟩
  · refine pss_ex fun D σ H g => ?_
    obtain ⟨C, dx, rfl, rfl, cl, nc, g⟩ := g
    exact ⟨_, pss_one (ps_ret (pe_tup (pa_cons (PfT.pe_xfp (.head _) hz hf cl nc (pv 1)) (pa_cons (PfT.pe_callE (fn_field T hz hf cl) ⟨rH.dp, rH.un⟩ (.head _) rfl T.g_field T.k_field T.bd_field pass0 (pa_cons (pv 1) pa_nil)) pa_nil)))), g⟩
theorem ok_tries {P : Program} {w : World} {K : PySem.W.Frag} {mg : Str → Option Value} {base : Heap} (T : Txt K mg) (k : Nat) : FnOk P w K mg base CX0 (k + 5) T.f_tries T.fd_tries ["_law_asks"] (spTries P w K mg base k (ctT T)) := by
  refine T.F_tries.ok sc_tries (fun vs H Q E h => spTries_len h) (fun cdv A outer s H vs Q E hr h => ?_)
  have hr3 : Room (k + 3) (A.deeper (PyProof.Rows.envOfC "_law_tries" (defScope s_tries) s.heap.objs.size T.f_tries cdv)) := hr.mono (by omega)
  refine ⟨_, (pss_one (ps_ret (pe_lc (own := [("_law_ask", 1)]) rfl sc_tries.nd (piL K (pv 0)) (blkOk_by (N := N_tries) (sc := defScope s_tries) (by decide +kernel)) (fun _ _ _ _ _ => (pg_name (i := 1) sc_tries.nd rfl (Or.inl rfl))) (fun _ _ _ _ _ => pts_nil) (fun _ _ _ _ _ => (pe_call (ok_try (P := P) (w := w) (base := base) T k) hr3 rfl T.g_try T.k_try T.bd_try .nil pass0 (pa_cons (pv 1) pa_nil)))))), ?_⟩
  obtain ⟨M, v, is, rfl, al, r, hz, ok, q⟩ := h
  have hs : spD K (fun ds => ds = [.lst (is.map itD)]) (fun _ d => ∃ es, d = .lst es ∧ OutL is es) [v] H Q E := ⟨M, _, al, .cons r .nil, rfl, fun v d H' ⟨es, e, o⟩ s r => q v es H' o s (e ▸ r)⟩
  refine enterD hs fun M ds pre _ => ?_
  subst pre
  refine do_ret (EvN.ev ?_)
  refine en_lc (js := [1]) (PX := fun l => l = is.map itD) (it_list (ev_var rfl ⟨_, rfl, rfl⟩)) (fun l e => by rw [e, List.length_map]; omega) (by decide) (fun l i acc => OutL (is.take i) acc) (fun l e => .nil) ?_ ?_
  · rintro l i d acc rfl hi o
    rw [List.getElem?_map] at hi
    cases e : is[i]? with
    | none => rw [e] at hi; cases hi
    | some it =>
      rw [e] at hi
      obtain rfl : itD it = d := Option.some.inj hi
      refine tg_name (et_yes ⟨fun _ => ?_, fun h => nomatch h⟩)
      refine ev_callTry rfl rfl rfl (i := 1) (f := it.1) (hs := []) (ws := it.2.1) (cs := it.2.2.1) rfl ?_
      obtain ⟨Pn, PX, a1, a2, a3⟩ := (ok it (List.mem_of_getElem? e)).ex
      have up : ∀ d, it.2.2.2 d → OutL (is.take (i + 1)) (acc ++ [d]) := fun d h => by
        rw [List.take_succ, e]
        exact o.snoc h
      exact ⟨Pn, PX, a1, fun d h => up _ (a2 d h), fun C gs h => by
        obtain ⟨n, x, ei, p⟩ := a3 C gs h
        exact ⟨n, x, ei, up _ p⟩⟩
  · rintro l ds rfl o
    rw [List.length_map, List.take_length] at o
    exact ⟨ds, rfl, o⟩

end Pf

set_option maxHeartbeats 16000000
namespace Pf
open PySem L2 PfL RZ
local macro_rules | `(tactic| walk_at "ev") => `(tactic| first
  | ((with_reducible refine' ev_var ?h ?_); (case h => rfl))
  | with_reducible refine ev_int ?_
  | with_reducible refine ev_bl ?_
  | with_reducible refine ev_str ?_
  | with_reducible refine ev_non ?_
  | with_reducible refine ev_ty ?_
  | with_reducible refine ev_op ?_
  | with_reducible refine ev_un ?_
  | with_reducible refine ev_chain ?_
  | with_reducible refine ev_if ?_
  | with_reducible refine ev_and ?_
  | with_reducible refine ev_or ?_
  | with_reducible refine ev_not ?_
  | with_reducible refine ev_lst ?_
  | with_reducible refine ev_tup ?_
  | with_reducible refine ea_nil ?_
  | with_reducible refine ea_cons ?_
  | with_reducible refine ev_cb ?_
  | with_reducible refine et_test ?_
  | with_reducible refine et_B ?_
  | with_reducible refine et_and ?_
  | with_reducible refine et_or ?_
  | with_reducible refine et_not ?_
  | with_reducible refine et_yes ?_
  | with_reducible refine eo_none ?_
  | with_reducible refine eo_some ?_
  | with_reducible refine ev_slS ?_
  | with_reducible refine od_int ?_
  | with_reducible refine od_bl ?_
  | with_reducible refine od_eq_int ?_
  | with_reducible refine od_ne_int ?_
  | with_reducible refine od_eq_bl ?_
  | with_reducible refine od_ne_bl ?_
  | with_reducible refine od_eq_str ?_
  | with_reducible refine od_ne_str ?_
  | with_reducible refine od_leS ?_
  | with_reducible refine ud_isN ?_
  | with_reducible refine ud_notN ?_
  | with_reducible refine do_seq ?_
  | with_reducible refine do_set ?_
  | with_reducible refine do_ret ?_
  | with_reducible refine do_retN ?_
  | with_reducible refine do_if ?_
  | with_reducible refine do_next ?_
  | with_reducible refine tg_name ?_
  | with_reducible refine tgs_nil ?_
  | with_reducible refine tgs_cons ?_)
/-! ### copied -/
def preCp (n : Nat) : List D → Prop := fun ds => ∃ x, ds = [x] ∧ plD x = true ∧ dep x ≤ n
theorem preCp_len {n : Nat} : ∀ ds, preCp n ds → ds.length = 1 := fun ds ⟨x, e, _⟩ => by rw [e]; rfl
def preC0 : Nat → List D → Prop
  | 0 => fun _ => False
  | n + 1 => preCp n
theorem cd_tupL {K : PySem.W.Frag} {P : D → Prop} {xs : List D} (p : P (.tup xs)) : CallD K (rTupleK K) [.lst xs] P := fun M H vs Q al r q => by
  cases r with
  | cons r1 r2 =>
    cases r2
    cases r1 with
    | lst h1 h2 => exact ⟨_, _, rfl, .inl ⟨SqL.of (hd_of h1).2, fun l hl => q _ _ _ p (same_new hl) (.tup (SqT.of (hd_new al hl)) (h2.mono (same_hdM (same_new hl))))⟩⟩
theorem take_more {α : Type} {xs : List α} {i : Nat} {x : α} (h : xs[i]? = some x) : xs.take (i + 1) = xs.take i ++ [x] := by rw [List.take_succ, h]; rfl
theorem ok_copied_ {P : Program} {w : World} {K : PySem.W.Frag} {mg : Str → Option Value} {base : Heap} (T : Txt K mg) (n : Nat) (G : FnOk P w K mg base CX0 n T.f_copied T.fd_copied ["value"] (spD K (preC0 n) fun ds d => ds = [d])) :
    FnOk P w K mg base CX0 (n + 1) T.f_copied T.fd_copied ["value"] (spD K (preCp n) fun ds d => ds = [d]) := by
  refine T.F_copied.ok sc_copied (spD_len preCp_len) (fun cdv A outer s H vs Q E hr h => ?_)
  refine ⟨_, (pss_cons (ps_if (pt_val (pe_callB (callIsi K) (by rfl) T.b_isinstance (by decide +kernel) (pa_cons (pv 0) (pa_cons (pe_bltn (v := .ty "list") (by rfl) T.b_list (by decide +kernel) rfl) pa_nil)))) (pss_one (ps_ret (pe_lc (own := [("item", 1)]) rfl sc_copied.nd (piL K (pv 0)) (blkOk_by (N := N_copied) (sc := defScope s_copied) (by decide +kernel)) (fun _ _ _ _ _ => (pg_name (i := 1) sc_copied.nd rfl (Or.inl rfl))) (fun _ _ _ _ _ => pts_nil) (fun _ _ _ _ _ => (pe_call G hr rfl T.g_copied T.k_copied T.bd_copied .nil pass0 (pa_cons (pv 1) pa_nil)))))) pss_nil)
    (pss_cons (ps_if (pt_val (pe_callB (callIsi K) (by rfl) T.b_isinstance (by decide +kernel) (pa_cons (pv 0) (pa_cons (pe_bltn (v := .ty "tuple") (by rfl) T.b_tuple (by decide +kernel) rfl) pa_nil)))) (pss_one (ps_ret (pe_callTy (callTuple K) (by rfl) T.b_tuple (by decide +kernel) (pa_cons (pe_lc (own := [("item", 1)]) rfl sc_copied.nd (piT K (pv 0)) (blkOk_by (N := N_copied) (sc := defScope s_copied) (by decide +kernel)) (fun _ _ _ _ _ => (pg_name (i := 1) sc_copied.nd rfl (Or.inl rfl))) (fun _ _ _ _ _ => pts_nil) (fun _ _ _ _ _ => (pe_call G hr rfl T.g_copied T.k_copied T.bd_copied .nil pass0 (pa_cons (pv 1) pa_nil)))) pa_nil)))) pss_nil)
    (pss_one (ps_ret (pv 0))))), ?_⟩
  refine enterD h fun M ds pre _ => ?_
  obtain ⟨x, rfl, px, hd⟩ := pre
  obtain ⟨a, ha⟩ := ty_of px
  have isx : ∀ {n : String} {P : D → Prop}, n ∈ tyAsk → P (.bl (isD x n)) → CallD K (rIsi K) [x, .ty n] P := fun hn p => cd_isi ha hn p
  have one : ∀ {F : Fm} {δ : List SD} {E : XK} {xs : List D} {i : Nat} {d : D} {P : D → Prop}, F.K = K → plL xs = true → depL xs + 1 ≤ n → xs[i]? = some d → δ[1]? = some (.dat d) → P d → Ev F (tCall (spD K (preC0 n) fun ds d => ds = [d]) [] E (tCons (tVar 1) tNil)) δ P := fun {F δ E xs i d P} eK pl dl hi h1 p => by
    subst eK
    obtain ⟨k, rfl⟩ : ∃ k, n = k + 1 := ⟨n - 1, by omega⟩
    refine ev_call (ea_cons (ev_var h1 (ea_nil ⟨⟨d, rfl, plL_get pl hi, ?_⟩, fun d' e => ?_⟩)))
    · have := depL_get hi
      omega
    · cases e
      exact p
  refine do_seq (do_if (et_test ?_))
  repeat (first | walk_at "ev" | refine isx (by decide) ?_)
  refine ⟨_, rfl, fun h1 => ?_, fun h1 => do_next ?_⟩
  · obtain ⟨xs, rfl⟩ : ∃ xs, x = .lst xs := by cases x <;> first | exact ⟨_, rfl⟩ | (simp [isD, tyName, isTy] at h1)
    simp only [plD, Bool.and_eq_true, decide_eq_true_eq] at px
    simp only [dep] at hd
    refine do_ret (EvN.ev ?_)
    refine en_lc (js := [1]) (PX := fun l => l = xs) (it_list (ev_var rfl ⟨_, rfl, rfl⟩)) (fun l e => by rw [e]; omega) (by decide) (fun l i acc => acc = xs.take i) (fun l e => rfl) ?_ ?_
    · rintro l i d acc rfl hi rfl
      refine tg_name (et_yes ⟨fun _ => ?_, fun h => nomatch h⟩)
      exact one rfl px.2 hd hi rfl (take_more hi).symm
    · rintro l ds rfl rfl
      rw [List.take_length]
  · refine do_seq (do_if (et_test ?_))
    repeat (first | walk_at "ev" | refine isx (by decide) ?_)
    refine ⟨_, rfl, fun h2 => ?_, fun h2 => do_next ?_⟩
    · obtain ⟨xs, rfl⟩ : ∃ xs, x = .tup xs := by cases x <;> first | exact ⟨_, rfl⟩ | (simp [isD, tyName, isTy] at h2)
      simp only [plD, Bool.and_eq_true, decide_eq_true_eq] at px
      simp only [dep] at hd
      refine do_ret (ev_cb (ea_cons (EvN.ev ?_)))
      refine en_lc (js := [1]) (PX := fun l => l = xs) (it_tup (ev_var rfl ⟨_, rfl, rfl⟩)) (fun l e => by rw [e]; omega) (by decide) (fun l i acc => acc = xs.take i) (fun l e => rfl) ?_ ?_
      · rintro l i d acc rfl hi rfl
        refine tg_name (et_yes ⟨fun _ => ?_, fun h => nomatch h⟩)
        exact one rfl px.2 hd hi rfl (take_more hi).symm
      · rintro l ds rfl rfl
        rw [List.take_length]
        exact ea_nil (cd_tupL rfl)
    · exact do_ret (ev_var rfl rfl)
theorem ok_copied {P : Program} {w : World} {K : PySem.W.Frag} {mg : Str → Option Value} {base : Heap} (T : Txt K mg) : ∀ n, FnOk P w K mg base CX0 (n + 1) T.f_copied T.fd_copied ["value"] (spD K (preCp n) fun ds d => ds = [d]) := by
  intro n
  induction n with
  | zero => exact ok_copied_ T 0 ⟨fun vs H Q E ⟨_, _, _, _, p, _⟩ => p.elim, fun A outer s H args us vs Q E _ _ _ _ ⟨_, _, _, _, p, _⟩ => p.elim⟩
  | succ n ih => exact ok_copied_ T (n + 1) ih
theorem ok_InvalidStanding_init {P : Program} {w : World} {K : PySem.W.Frag} {mg : Str → Option Value} {base : Heap} (T : Txt K mg) : FnOk P w K mg base CX0 8 T.f_InvalidStanding_init T.fd_InvalidStanding_init ["self", "given"] (spY K T.c_InvalidStanding (preCp 4) (postX1 "InvalidStanding" "given")) := by
  refine T.F_InvalidStanding_init.ok sc_InvalidStanding_init (fun vs H Q E h => spY_len preCp_len h) (fun cdv A outer s H vs Q E hr h => ?_)
  exact ⟨_, (pss_cons (ps_xst (pv 0) pe_str)
    (pss_one (ps_xst (pv 0) (pe_call (ok_copied T 4) (hr.mono (by decide)) rfl T.g_copied T.k_copied T.bd_copied .nil pass0 (pa_cons (pv 1) pa_nil))))), initY1 T.xa_InvalidStanding.x (T.xa_InvalidStanding.no _ (by decide)) (T.xa_InvalidStanding.no _ (by decide)) h preCp_len⟩

end Pf

set_option maxHeartbeats 16000000
namespace Pf
open PySem L2 PfL RZ
local macro_rules | `(tactic| walk_at "ev") => `(tactic| first
  | ((with_reducible refine' ev_var ?h ?_); (case h => rfl))
  | with_reducible refine ev_int ?_
  | with_reducible refine ev_bl ?_
  | with_reducible refine ev_str ?_
  | with_reducible refine ev_non ?_
  | with_reducible refine ev_ty ?_
  | with_reducible refine ev_op ?_
  | with_reducible refine ev_un ?_
  | with_reducible refine ev_chain ?_
  | with_reducible refine ev_if ?_
  | with_reducible refine ev_and ?_
  | with_reducible refine ev_or ?_
  | with_reducible refine ev_not ?_
  | with_reducible refine ev_lst ?_
  | with_reducible refine ev_tup ?_
  | with_reducible refine ea_nil ?_
  | with_reducible refine ea_cons ?_
  | with_reducible refine ev_cb ?_
  | with_reducible refine et_test ?_
  | with_reducible refine et_B ?_
  | with_reducible refine et_and ?_
  | with_reducible refine et_or ?_
  | with_reducible refine et_not ?_
  | with_reducible refine et_yes ?_
  | with_reducible refine eo_none ?_
  | with_reducible refine eo_some ?_
  | with_reducible refine ev_slS ?_
  | with_reducible refine od_int ?_
  | with_reducible refine od_bl ?_
  | with_reducible refine od_eq_int ?_
  | with_reducible refine od_ne_int ?_
  | with_reducible refine od_eq_bl ?_
  | with_reducible refine od_ne_bl ?_
  | with_reducible refine od_eq_str ?_
  | with_reducible refine od_ne_str ?_
  | with_reducible refine od_leS ?_
  | with_reducible refine ud_isN ?_
  | with_reducible refine ud_notN ?_
  | with_reducible refine do_seq ?_
  | with_reducible refine do_set ?_
  | with_reducible refine do_ret ?_
  | with_reducible refine do_retN ?_
  | with_reducible refine do_if ?_
  | with_reducible refine do_next ?_
  | with_reducible refine tg_name ?_
  | with_reducible refine tgs_nil ?_
  | with_reducible refine tgs_cons ?_)
/-! ### states and readers on data -/
abbrev StT := Int × List Int × Option Int × Option Int
def optD : Option Int → D
  | none => .non
  | some i => .int i
def stD (s : StT) : D := .tup [.int s.1, .tup (s.2.1.map .int), optD s.2.2.1, optD s.2.2.2]
def stsD (ss : List StT) : List D := ss.map stD
def OptIn (n : Int) (o : Option Int) : Prop := ∀ i, o = some i → 0 ≤ i ∧ i ≤ n - 1
structure GoodSt (n : Int) (P : Nat) (s : StT) : Prop where
  s0 : 1 ≤ s.1
  s1 : s.1 ≤ 9
  al : s.2.1.length = P
  as : ∀ a ∈ s.2.1, 1 ≤ a ∧ a ≤ 9
  fu : OptIn n s.2.2.1
  th : OptIn n s.2.2.2
structure GoodSts (P : Nat) (ss : List StT) : Prop where
  n0 : 0 < ss.length
  n6 : ss.length ≤ 6
  p0 : 1 ≤ P
  p4 : P ≤ 4
  st : ∀ s ∈ ss, GoodSt ss.length P s
theorem stsD_len {ss : List StT} : (stsD ss).length = ss.length := by simp [stsD]
theorem stsD_get {ss : List StT} {i : Nat} {d : D} (h : (stsD ss)[i]? = some d) : ∃ r, ss[i]? = some r ∧ d = stD r := by
  unfold stsD at h
  rw [List.getElem?_map] at h
  cases e : ss[i]? with
  | none => rw [e] at h; cases h
  | some r =>
    rw [e] at h
    exact ⟨r, rfl, (Option.some.inj h).symm⟩
theorem ints_inj {xs ys : List Int} (h : xs.map D.int = ys.map D.int) : xs = ys := by
  have hm := congrArg (List.map fun d => match d with | D.int i => i | _ => 0) h
  simpa [List.map_map, Function.comp_def] using hm
theorem optD_inj {a b : Option Int} (h : optD a = optD b) : a = b := by
  cases a <;> cases b <;> simp_all [optD]
theorem stD_inj {s t : StT} (h : stD s = stD t) : s = t := by
  obtain ⟨a, b, c, d⟩ := s
  obtain ⟨a', b', c', d'⟩ := t
  simp only [stD, D.tup.injEq, List.cons.injEq, D.int.injEq, and_true] at h
  obtain ⟨rfl, h2, h3, h4⟩ := h
  rw [ints_inj h2, optD_inj h3, optD_inj h4]
theorem stsD_inj : ∀ {xs ys : List StT}, stsD xs = stsD ys → xs = ys
  | [], [], _ => rfl
  | [], _ :: _, h => by cases h
  | _ :: _, [], h => by cases h
  | x :: xs, y :: ys, h => by
    simp only [stsD, List.map_cons, List.cons.injEq] at h
    rw [stD_inj h.1, stsD_inj (xs := xs) (ys := ys) h.2]
theorem ev_num {F : Fm} {δ : List SD} {ta : TA} {P : D → Prop} {E : XK} (h : EvA F ta δ fun ds => ∃ x lo hi, ds = [x, .int lo, .int hi] ∧ plD x = true ∧ P (.bl (isNum x lo hi))) : Ev F (tCall (spD F.K preNum postNum) [] E ta) δ P :=
  ev_call (h.imp fun ds ⟨x, lo, hi, e, px, p⟩ => ⟨⟨x, lo, hi, e, px⟩, fun d ⟨x', lo', hi', e', ed⟩ => by
    subst e
    cases e'
    subst ed
    exact p⟩)
theorem isNum_yes {i lo hi : Int} (h1 : lo ≤ i) (h2 : i ≤ hi) : isNum (.int i) lo hi = true := by simp [isNum, h1, h2]
def postNon : List D → D → Prop := fun _ d => d = .non
def postYes : List D → D → Prop := fun _ d => d = .bl true
def preAsk : List D → Prop := fun ds => ∃ a : Int, ds = [.int a] ∧ 1 ≤ a ∧ a ≤ 9
theorem ok__is_ask {P : Program} {w : World} {K : PySem.W.Frag} {mg : Str → Option Value} {base : Heap} (T : Txt K mg) : FnOk P w K mg base CX0 4 T.f__is_ask T.fd__is_ask ["value"] (spD K preAsk postYes) := by
  refine T.F__is_ask.ok sc__is_ask (spD_len fun ds ⟨P, e, _⟩ => by rw [e]; rfl) (fun cdv A outer s H vs Q E hr h => ?_)
  refine ⟨_, (pss_one (ps_ret (pe_call (ok_is_number T) (hr.mono (by decide)) rfl T.g_is_number T.k_is_number T.bd_is_number .nil pass0 (pa_cons (pv 0) (pa_cons pe_int (pa_cons (peCval K (pe_glob (v := .ref T.c_Reader) rfl T.g_Reader rfl)) pa_nil)))))), ?_⟩
  refine enterD h fun M ds pre _ => ?_
  obtain ⟨a, rfl, h1, h2⟩ := pre
  obtain ⟨u, cv⟩ := T.cv_Reader_MOST_ASK
  refine do_ret (ev_num (ea_cons (ev_var rfl (ea_cons (ev_int (ea_cons (ev_cval T.cr_Reader cv (ea_nil ⟨_, _, _, rfl, rfl, ?_⟩) (ev_adr rfl))))))))
  rw [isNum_yes h1 h2]
  rfl
def preAsks : List D → Prop := fun ds => ∃ as : List Int, ds = [.tup (as.map .int)] ∧ 1 ≤ as.length ∧ as.length ≤ 4 ∧ ∀ a ∈ as, 1 ≤ a ∧ a ≤ 9
theorem getInt {ns : List Int} {i : Nat} {d : D} (h : (ns.map D.int)[i]? = some d) : ∃ n, ns[i]? = some n ∧ d = .int n := by
  rw [List.getElem?_map] at h
  cases e : ns[i]? with
  | none => rw [e] at h; cases h
  | some r =>
    rw [e] at h
    exact ⟨r, rfl, (Option.some.inj h).symm⟩
theorem ok__are_asks {P : Program} {w : World} {K : PySem.W.Frag} {mg : Str → Option Value} {base : Heap} (T : Txt K mg) : FnOk P w K mg base CX0 6 T.f__are_asks T.fd__are_asks ["value"] (spD K preAsks postYes) := by
  refine T.F__are_asks.ok sc__are_asks (spD_len fun ds ⟨P, e, _⟩ => by rw [e]; rfl) (fun cdv A outer s H vs Q E hr h => ?_)
  refine ⟨_, (pss_one (ps_ret (pe_and (pe_callB (callIsi K) (by rfl) T.b_isinstance (by decide +kernel) (pa_cons (pv 0) (pa_cons (pe_bltn (v := .ty "tuple") (by rfl) T.b_tuple (by decide +kernel) rfl) pa_nil))) (pe_and (pe_chain op_le op_le pe_int (pe_callB (callLen K) (by rfl) T.b_len (by decide +kernel) (pa_cons (pv 0) pa_nil)) (peCval K (pe_glob (v := .ref T.c_Table) rfl T.g_Table rfl))) (pe_one (pe_callB (callAll K) (by rfl) T.b_all (by decide +kernel) (pa_cons (pe_lc (own := [("ask", 1)]) rfl sc__are_asks.nd (piT K (pv 0)) (blkOk_by (N := N__are_asks) (sc := defScope s__are_asks) (by decide +kernel)) (fun _ _ _ _ _ => (pg_name (i := 1) sc__are_asks.nd rfl (Or.inl rfl))) (fun _ _ _ _ _ => pts_nil) (fun _ _ _ _ _ => (pe_call (ok__is_ask T) (hr.mono (by decide)) rfl T.g__is_ask T.k__is_ask T.bd__is_ask .nil pass0 (pa_cons (pv 1) pa_nil)))) pa_nil))))))), ?_⟩
  refine enterD h fun M ds pre _ => ?_
  obtain ⟨as, rfl, h1, h4, ha⟩ := pre
  obtain ⟨u, cv⟩ := T.cv_Table_MOST_PARTS
  refine do_ret (ev_and (ev_cb (ea_cons (ev_var rfl (ea_cons (ev_ty (ea_nil (cd_isi (a := "tuple") rfl (by decide) ⟨_, rfl, fun _ => ?_, fun h => nomatch h⟩))))))))
  refine ev_and (ev_chain (ev_int (ev_cb (ea_cons (ev_var rfl (ea_nil (cd_lenK (k := as.length) (by simp [lenD]) (by omega) (od_bl ⟨_, rfl, fun _ => ?_, fun h => ?_⟩))))))))
  · refine ev_cval T.cr_Table cv (od_bl ⟨_, rfl, fun _ => ?_, fun h => ?_⟩) (ev_adr rfl)
    · refine ev_cb (ea_cons (EvN.ev ?_))
      refine en_lc (js := [1]) (PX := fun l => l = as.map .int) (it_tup (ev_var rfl ⟨_, rfl, rfl⟩)) (fun l e => by rw [e, List.length_map]; omega) (by decide) (fun l i acc => acc = List.replicate i (D.bl true)) (fun l e => rfl) ?_ ?_
      · rintro l i d acc rfl hi rfl
        obtain ⟨a, ha', rfl⟩ := getInt hi
        refine tg_name (et_yes ⟨fun _ => ?_, fun h => nomatch h⟩)
        refine ev_call (ea_cons (ev_var rfl (ea_nil ⟨⟨a, rfl, ha a (List.mem_of_getElem? ha')⟩, fun d hd => ?_⟩)))
        rw [show d = .bl true from hd, List.replicate_succ']
      · rintro l ds rfl rfl
        refine ea_nil ?_
        have : List.replicate (as.map D.int).length (D.bl true) = blD (List.replicate as.length true) := by simp [blD]
        rw [this]
        refine cd_all ?_
        simp [postYes]
    · have := of_decide_eq_false h
      omega
  · have := of_decide_eq_false h
    omega
def preFol : List D → Prop := fun ds => ∃ (o : Option Int) (n : Int), ds = [optD o, .int n] ∧ OptIn n o
theorem plD_opt (o : Option Int) : plD (optD o) = true := by cases o <;> simp [optD, plD]
theorem ok__is_following {P : Program} {w : World} {K : PySem.W.Frag} {mg : Str → Option Value} {base : Heap} (T : Txt K mg) : FnOk P w K mg base CX0 4 T.f__is_following T.fd__is_following ["value", "many"] (spD K preFol postYes) := by
  refine T.F__is_following.ok sc__is_following (spD_len fun ds ⟨o, n, e, _⟩ => by rw [e]; rfl) (fun cdv A outer s H vs Q E hr h => ?_)
  refine ⟨_, (pss_one (ps_ret (pe_or (pe_cmpR op_isN (pv 0) pe_non (nomark _)) (pe_one (pe_call (ok_is_number T) (hr.mono (by decide)) rfl T.g_is_number T.k_is_number T.bd_is_number .nil pass0 (pa_cons (pv 0) (pa_cons pe_int (pa_cons (pe_op op_sub (pv 1) pe_int) pa_nil)))))))), ?_⟩
  refine enterD h fun M ds pre _ => ?_
  obtain ⟨o, n, rfl, ho⟩ := pre
  refine do_ret (ev_or (ev_op (ev_var rfl (ev_non (ud_isN ⟨_, rfl, fun h => ?_, fun h => rfl⟩)))))
  refine ev_num (ea_cons (ev_var rfl (ea_cons (ev_int (ea_cons (ev_op (ev_var rfl (ev_int (od_int (ea_nil ⟨_, _, _, rfl, plD_opt o, ?_⟩))))))))))
  cases o with
  | none => simp [optD, isNon] at h
  | some i =>
    obtain ⟨a, b⟩ := ho i rfl
    show D.bl (isNum (.int i) 0 (n - 1)) = .bl true
    rw [isNum_yes a b]
def preSt : List D → Prop := fun ds => ∃ (s : StT) (n : Int) (P : Nat), ds = [stD s, .int n] ∧ 1 ≤ P ∧ P ≤ 4 ∧ GoodSt n P s
theorem ok__is_state {P : Program} {w : World} {K : PySem.W.Frag} {mg : Str → Option Value} {base : Heap} (T : Txt K mg) : FnOk P w K mg base CX0 8 T.f__is_state T.fd__is_state ["value", "many"] (spD K preSt postYes) := by
  refine T.F__is_state.ok sc__is_state (spD_len fun ds ⟨s, n, P, e, _⟩ => by rw [e]; rfl) (fun cdv A outer s H vs Q E hr h => ?_)
  refine ⟨_, (pss_cons (ps_if (PW.pt (pw_or (pt_not (pt_val (pe_callB (callIsi K) (by rfl) T.b_isinstance (by decide +kernel) (pa_cons (pv 0) (pa_cons (pe_bltn (v := .ty "tuple") (by rfl) T.b_tuple (by decide +kernel) rfl) pa_nil))))) (pw_or1 (pt_cmpR op_ne (pe_callB (callLen K) (by rfl) T.b_len (by decide +kernel) (pa_cons (pv 0) pa_nil)) pe_int (nomark _))))) (pss_one (ps_ret pe_bl)) pss_nil)
    (pss_cons (ps_asg (pv 0) (pgTup K (n := 4) rfl (pgs_cons (pg_name (i := 2) sc__is_state.nd rfl (Or.inl rfl)) (pgs_cons (pg_name (i := 3) sc__is_state.nd rfl (Or.inl rfl)) (pgs_cons (pg_name (i := 4) sc__is_state.nd rfl (Or.inl rfl)) (pgs_cons (pg_name (i := 5) sc__is_state.nd rfl (Or.inl rfl)) pgs_nil))))))
    (pss_one (ps_ret (pe_and (pe_call (ok_is_number T) (hr.mono (by decide)) rfl T.g_is_number T.k_is_number T.bd_is_number .nil pass0 (pa_cons (pv 2) (pa_cons pe_int (pa_cons (pe_glob (v := .int 9) rfl T.g__MOST_SIZE ⟨_, rfl⟩) pa_nil)))) (pe_and (pe_call (ok__are_asks T) (hr.mono (by decide)) rfl T.g__are_asks T.k__are_asks T.bd__are_asks .nil pass0 (pa_cons (pv 3) pa_nil)) (pe_and (pe_call (ok__is_following T) (hr.mono (by decide)) rfl T.g__is_following T.k__is_following T.bd__is_following .nil pass0 (pa_cons (pv 4) (pa_cons (pv 1) pa_nil))) (pe_one (pe_call (ok__is_following T) (hr.mono (by decide)) rfl T.g__is_following T.k__is_following T.bd__is_following .nil pass0 (pa_cons (pv 5) (pa_cons (pv 1) pa_nil))))))))))), ?_⟩
  refine enterD h fun M ds pre _ => ?_
  obtain ⟨⟨sz, as, fu, th⟩, n, P, rfl, p1, p4, g⟩ := pre
  refine do_seq (do_if (et_or (et_not (et_test (ev_cb (ea_cons (ev_var rfl (ea_cons (ev_ty (ea_nil (cd_isi (a := "tuple") rfl (by decide) ⟨_, rfl, fun _ => ?_, fun h => nomatch h⟩)))))))))))
  refine et_test (ev_op (ev_cb (ea_cons (ev_var rfl (ea_nil (cd_lenK (k := 4) rfl (by decide) ?_))))))
  refine ev_int (od_ne_int ⟨_, rfl, fun h => ?_, fun _ => ?_⟩)
  · simp at h
  refine do_next (do_seq (do_asg (js := [2, 3, 4, 5]) (ev_var rfl (tg_tup rfl ?_))))
  refine tgs_cons (js := [2]) (ks := [3, 4, 5]) (tg_name (tgs_cons (js := [3]) (ks := [4, 5]) (tg_name (tgs_cons (js := [4]) (ks := [5]) (tg_name (tgs_cons (js := [5]) (ks := []) (tg_name (tgs_nil ?_))))))))
  refine do_ret (ev_and (ev_num ?_))
  refine ea_cons (ev_var rfl (ea_cons (ev_int (ea_cons (ev_int (ea_nil ⟨_, _, _, rfl, rfl, _, rfl, fun _ => ?_, fun h => ?_⟩))))))
  · refine ev_and (ev_call (ea_cons (ev_var rfl (ea_nil ⟨⟨as, rfl, by rw [g.al]; exact p1, by rw [g.al]; exact p4, g.as⟩, fun d hd => ⟨_, hd, fun _ => ?_, fun h => nomatch h⟩⟩))))
    refine ev_and (ev_call (ea_cons (ev_var rfl (ea_cons (ev_var rfl (ea_nil ⟨⟨fu, n, rfl, g.fu⟩, fun d hd => ⟨_, hd, fun _ => ?_, fun h => nomatch h⟩⟩))))))
    exact ev_call (ea_cons (ev_var rfl (ea_cons (ev_var rfl (ea_nil ⟨⟨th, n, rfl, g.th⟩, fun d hd => hd⟩)))))
  · rw [isNum_yes g.s0 g.s1] at h
    cases h
def preSts : List D → Prop := fun es => ∃ (P : Nat) (ss : List StT), es = stsD ss ∧ GoodSts P ss
theorem ok__check_states {P : Program} {w : World} {K : PySem.W.Frag} {mg : Str → Option Value} {base : Heap} (T : Txt K mg) : FnOk P w K mg base CX0 10 T.f__check_states T.fd__check_states ["states"] (spS K preSts postNon) := by
  refine T.F__check_states.ok sc__check_states spS_len (fun cdv A outer s H vs Q E hr h => ?_)
  refine ⟨_, (pss_cons (ps_if (pt_cmpR op_eq (pe_callB (callLen K) (by rfl) T.b_len (by decide +kernel) (pa_cons (pv 0) pa_nil)) pe_int (nomark _)) (pss_one ps_never) pss_nil)
    (pss_one (ps_for PassesOwn.never rfl (pi_enumA K (by rfl) T.b_enumerate (pa_cons (pv 0) pa_nil)) (pgTup K (n := 2) rfl (pgs_cons (pg_name (i := 1) sc__check_states.nd rfl (Or.inl rfl)) (pgs_cons (pg_name (i := 2) sc__check_states.nd rfl (Or.inl rfl)) pgs_nil)))
      (pss_one (ps_if (PW.pt (pw_or (pt_cmpR op_eq (pv 1) (peCval K (pe_glob (v := .ref T.c_Reader) rfl T.g_Reader rfl)) (nomark _)) (pw_or (pt_not (pt_val (pe_call (ok__is_state T) (hr.mono (by decide)) rfl T.g__is_state T.k__is_state T.bd__is_state .nil pass0 (pa_cons (pv 2) (pa_cons (pe_callB (callLen K) (by rfl) T.b_len (by decide +kernel) (pa_cons (pv 0) pa_nil)) pa_nil))))) (pw_or1 (pt_cmpR op_ne (pe_callB (callLen K) (by rfl) T.b_len (by decide +kernel) (pa_cons (pe_ix (ixT K) (pv 2) pe_int (fun _ _ => rfl)) pa_nil)) (pe_callB (callLen K) (by rfl) T.b_len (by decide +kernel) (pa_cons (pe_ix (ixT K) (pe_ix (ixA K) (pv 0) pe_int (fun _ _ => rfl)) pe_int (fun _ _ => rfl)) pa_nil)) (nomark _)))))) (pss_one ps_never) pss_nil))))), ?_⟩
  refine enterS h fun M es pre => ?_
  obtain ⟨P, ss, rfl, g⟩ := pre
  have n0 := g.n0
  have n6 := g.n6
  obtain ⟨u, cv⟩ := T.cv_Reader_MOST_STATES
  refine do_seq (do_if (et_test (ev_op (ev_lenSq rfl (ev_int (od_eq_int ⟨_, rfl, fun h => ?_, fun _ => do_next ?_⟩))))))
  · have := of_decide_eq_true h
    rw [stsD_len] at this
    omega
  refine do_for (js := [1, 2]) (PX := fun l => l = numbered (stsD ss)) (it_enumSq rfl rfl) (fun l i δ => ∃ a b, δ = [.sq (stsD ss), a, b]) (fun l e => ⟨.un, .un, rfl⟩) ?_ ?_
  · rintro l i d δ' rfl hi ⟨a, b, rfl⟩
    have hlt : i < (stsD ss).length := by
      have := (List.getElem?_eq_some_iff.mp hi).1
      rwa [numbered_len] at this
    obtain ⟨r, hr', hrd⟩ := stsD_get (List.getElem?_eq_getElem hlt)
    have he := numbered_get (List.getElem?_eq_getElem hlt)
    rw [hi] at he
    obtain rfl := Option.some.inj he
    rw [hrd]
    rw [stsD_len] at hlt
    have gs := g.st r (List.mem_of_getElem? hr')
    obtain ⟨s0, ss', hss⟩ : ∃ s0 ss', ss = s0 :: ss' := by
      cases ss with
      | nil => simp at n0
      | cons a b => exact ⟨_, _, rfl⟩
    have g0 := g.st s0 (by rw [hss]; simp)
    refine tg_tup rfl (tgs_cons (js := [1]) (ks := [2]) (tg_name (tgs_cons (js := [2]) (ks := []) (tg_name (tgs_nil ?_)))))
    refine do_if (et_or (et_test (ev_op (ev_var rfl (ev_cval T.cr_Reader cv (od_eq_int ⟨_, rfl, fun _ => ?_, fun h => ?_⟩) (ev_adr rfl))))))
    · refine et_or (et_not (et_test (ev_call (ea_cons (ev_var rfl (ea_cons (ev_lenSq rfl (ea_nil ⟨⟨r, _, P, rfl, g.p0, g.p4, by rw [stsD_len]; exact gs⟩, fun d hd => ⟨_, hd, fun _ => ?_, fun h => nomatch h⟩⟩))))))))
      refine et_test (ev_op (ev_cb (ea_cons (ev_op (ev_var rfl (ev_int (od_ixT (d := .tup (r.2.1.map .int)) rfl (ea_nil (cd_lenK (k := P) (by simp [lenD, gs.al]) (by have := g.p4; omega) ?_)))))))))
      refine ev_cb (ea_cons (ev_op (ev_ixSq (d := stD s0) rfl (by rw [hss]; exact atI_nat (j := 0) (by simp [stsD])) (ev_int (od_ixT (d := .tup (s0.2.1.map .int)) rfl (ea_nil (cd_lenK (k := P) (by simp [lenD, g0.al]) (by have := g.p4; omega) (od_ne_int ⟨_, rfl, fun h => ?_, fun _ => do_next ⟨_, _, rfl⟩⟩))))))))
      simp at h
    · have := of_decide_eq_true h
      omega
  · rintro l δ' rfl ⟨a, b, rfl⟩
    exact rfl
structure RdT where
  m : Str
  i : Str
  o : Str
  ss : List StT
def marks : List Str := ["key", "from", "row", "each", "count", "rest"]
def inners : List Str := ["up", "down"]
def orders : List Str := ["number", "back", "part"]
def partsOf (ss : List StT) : Nat := match ss with
  | [] => 0
  | s :: _ => s.2.1.length
structure GoodRd (r : RdT) : Prop where
  m : r.m ∈ marks
  i : r.i ∈ inners
  o : r.o ∈ orders
  ss : GoodSts (partsOf r.ss) r.ss
def rdF (r : RdT) : List (Str × D) := [("_mark", .str r.m), ("_inner", .str r.i), ("_order", .str r.o), ("_states", .tup (stsD r.ss))]
theorem GoodSts.parts {P : Nat} {ss : List StT} (g : GoodSts P ss) : partsOf ss = P := by
  cases ss with
  | nil => have := g.n0; simp at this
  | cons s r => exact (g.st s (by simp)).al
def preRd : List D → List D → List D → Prop := fun ds es gs => ∃ r : RdT, ds = [.str r.m] ∧ es = stsD r.ss ∧ gs = [.str r.i, .str r.o] ∧ GoodRd r
def postRd : List D → List D → List D → List (Str × D) → Prop := fun ds es gs fs => ∃ r : RdT, ds = [.str r.m] ∧ es = stsD r.ss ∧ gs = [.str r.i, .str r.o] ∧ GoodRd r ∧ fs = rdF r
theorem rd_put (a b c d : D) : putFD "_states" d (putFD "_order" c (putFD "_inner" b (putFD "_mark" a []))) = ([("_mark", a), ("_inner", b), ("_order", c), ("_states", d)] : List (Str × D)) := by rfl
def preOrds : List D → Prop := fun ds => ∃ i o : Str, ds = [.str i, .str o] ∧ i ∈ inners ∧ o ∈ orders
theorem ok_check_orders {P : Program} {w : World} {K : PySem.W.Frag} {mg : Str → Option Value} {base : Heap} (T : Txt K mg) : FnOk P w K mg base CX0 2 T.f_check_orders T.fd_check_orders ["inner", "order"] (spD K preOrds postNon) := by
  refine T.F_check_orders.ok sc_check_orders (spD_len fun ds ⟨i, o, e, _⟩ => by rw [e]; rfl) (fun cdv A outer s H vs Q E hr h => ?_)
  refine ⟨_, (pss_cons (ps_if (pt_cmpR (opNotIn K) (pv 0) (peCval K (pe_glob (v := .ref T.c_Reader) rfl T.g_Reader rfl)) (by with_unfolding_all rfl)) (pss_one ps_never) pss_nil)
    (pss_one (ps_if (pt_cmpR (opNotIn K) (pv 1) (peCval K (pe_glob (v := .ref T.c_Reader) rfl T.g_Reader rfl)) (by with_unfolding_all rfl)) (pss_one ps_never) pss_nil))), ?_⟩
  refine enterD h fun M ds pre _ => ?_
  obtain ⟨i, o, rfl, hi, ho⟩ := pre
  obtain ⟨a2, u2, cv2, sq2⟩ := T.ct_Reader_INNER
  obtain ⟨a3, u3, cv3, sq3⟩ := T.ct_Reader_ORDERS
  refine do_seq (do_if (et_test (ev_op (ev_var (d := .str i) rfl (ev_ctup (zs := inners) T.cr_Reader cv2 sq2 (od_inStrs (neg := true) (t := true) ⟨_, rfl, fun h => ?_, fun _ => do_next ?_⟩) (ev_adr rfl))))))
  · simp [hi] at h
  refine do_if (et_test (ev_op (ev_var (d := .str o) rfl (ev_ctup (zs := orders) T.cr_Reader cv3 sq3 (od_inStrs (neg := true) (t := true) ⟨_, rfl, fun h => ?_, fun _ => do_next rfl⟩) (ev_adr rfl)))))
  simp [ho] at h
theorem ok_Reader_init {P : Program} {w : World} {K : PySem.W.Frag} {mg : Str → Option Value} {base : Heap} (T : Txt K mg) : FnOk P w K mg base CX0 12 T.f_Reader_init T.fd_Reader_init ["self", "mark", "states", "inner", "order"] (spIM K T.c_Reader preRd postRd) := by
  refine T.F_Reader_init.ok sc_Reader_init (spIM_len fun ds es gs ⟨r, e1, _, e2, _⟩ => by rw [e1, e2]; rfl) (fun cdv A outer s H vs Q E hr h => ?_)
  refine ⟨_, (pss_cons (ps_if (pt_cmpR (opNotIn K) (pv 1) (peCval K (pe_glob (v := .ref T.c_Reader) rfl T.g_Reader rfl)) (by with_unfolding_all rfl)) (pss_one ps_never) pss_nil)
    (pss_cons (ps_expr (pe_call (ok_check_orders T) (hr.mono (by decide)) rfl T.g_check_orders T.k_check_orders T.bd_check_orders .nil pass0 (pa_cons (pv 3) (pa_cons (pv 4) pa_nil))))
    (pss_cons (ps_expr (pe_call (ok__check_states T) (hr.mono (by decide)) rfl T.g__check_states T.k__check_states T.bd__check_states .nil pass0 (pa_cons (pv 2) pa_nil)))
    (pss_cons (ps_fld (pv 0) (pv 1) rfl)
    (pss_cons (ps_fld (pv 0) (pv 3) rfl)
    (pss_cons (ps_fld (pv 0) (pv 4) rfl)
    (pss_one (ps_fld (pv 0) (pe_callTy (callTuple K) (by rfl) T.b_tuple (by decide +kernel) (pa_cons (pv 2) pa_nil)) rfl)))))))), ?_⟩
  refine enterIM h fun M H1 x ds es gs X pre _ hX => ?_
  obtain ⟨r, rfl, rfl, rfl, g⟩ := pre
  obtain ⟨a1, u1, cv1, sq1⟩ := T.ct_Reader_MARKS
  have hs : ∀ fs, SeqSlot ((slotsI N_Reader_init x T.c_Reader ([D.str r.m].map .dat ++ X :: [D.str r.i, D.str r.o].map .dat)).set 0 (.own x (.ins T.c_Reader fs))) 2 (stsD r.ss) := fun fs => by
    rcases hX with rfl | rfl
    · exact .inl rfl
    · exact .inr rfl
  refine do_seq (do_if (et_test (ev_op (ev_var (d := .str r.m) rfl (ev_ctup (zs := marks) T.cr_Reader cv1 sq1 (od_inStrs (neg := true) (t := true) ⟨_, rfl, fun h => ?_, fun _ => do_next ?_⟩) (ev_adr rfl))))))
  · simp [g.m] at h
  refine do_seq (do_drop (ev_call (ea_cons (ev_var (d := .str r.i) rfl (ea_cons (ev_var (d := .str r.o) rfl (ea_nil ⟨⟨_, _, rfl, g.i, g.o⟩, fun _ _ => ?_⟩)))))))
  refine do_seq (do_drop (ev_callSeq (hs []) ⟨_, _, rfl, g.ss⟩ fun _ _ => ?_))
  refine do_seq (do_fset (i := 0) rfl T.cf_Reader.cl T.na_Reader_mark (by decide) (ev_var (d := .str r.m) rfl ?_))
  refine do_seq (do_fset (i := 0) rfl T.cf_Reader.cl T.na_Reader_inner (by simp [putFD]) (ev_var (d := .str r.i) rfl ?_))
  refine do_seq (do_fset (i := 0) rfl T.cf_Reader.cl T.na_Reader_order (by simp [putFD]; split <;> simp) (ev_var (d := .str r.o) rfl ?_))
  refine do_fset (i := 0) rfl T.cf_Reader.cl T.na_Reader_states (by show 3 < 1000; decide) (ev_tupSeq (es := stsD r.ss) (by rcases hX with rfl | rfl; exact .inl rfl; exact .inr rfl) ?_)
  exact ⟨_, rfl, r, rfl, rfl, rfl, g, rd_put _ _ _ _⟩

end Pf

set_option maxHeartbeats 16000000
namespace Pf
open PySem L2 PfL RZ
local macro_rules | `(tactic| walk_at "ev") => `(tactic| first
  | ((with_reducible refine' ev_var ?h ?_); (case h => rfl))
  | with_reducible refine ev_int ?_
  | with_reducible refine ev_bl ?_
  | with_reducible refine ev_str ?_
  | with_reducible refine ev_non ?_
  | with_reducible refine ev_ty ?_
  | with_reducible refine ev_op ?_
  | with_reducible refine ev_un ?_
  | with_reducible refine ev_chain ?_
  | with_reducible refine ev_if ?_
  | with_reducible refine ev_and ?_
  | with_reducible refine ev_or ?_
  | with_reducible refine ev_not ?_
  | with_reducible refine ev_lst ?_
  | with_reducible refine ev_tup ?_
  | with_reducible refine ea_nil ?_
  | with_reducible refine ea_cons ?_
  | with_reducible refine ev_cb ?_
  | with_reducible refine et_test ?_
  | with_reducible refine et_B ?_
  | with_reducible refine et_and ?_
  | with_reducible refine et_or ?_
  | with_reducible refine et_not ?_
  | with_reducible refine et_yes ?_
  | with_reducible refine eo_none ?_
  | with_reducible refine eo_some ?_
  | with_reducible refine ev_slS ?_
  | with_reducible refine od_int ?_
  | with_reducible refine od_bl ?_
  | with_reducible refine od_eq_int ?_
  | with_reducible refine od_ne_int ?_
  | with_reducible refine od_eq_bl ?_
  | with_reducible refine od_ne_bl ?_
  | with_reducible refine od_eq_str ?_
  | with_reducible refine od_ne_str ?_
  | with_reducible refine od_leS ?_
  | with_reducible refine ud_isN ?_
  | with_reducible refine ud_notN ?_
  | with_reducible refine do_seq ?_
  | with_reducible refine do_set ?_
  | with_reducible refine do_ret ?_
  | with_reducible refine do_retN ?_
  | with_reducible refine do_if ?_
  | with_reducible refine do_next ?_
  | with_reducible refine tg_name ?_
  | with_reducible refine tgs_nil ?_
  | with_reducible refine tgs_cons ?_)
/-! ### what a reader is asked -/
theorem rdF_inj {c : Addr} {r r' : RdT} (h : D.ins c (rdF r) = .ins c (rdF r')) : r = r' := by
  obtain ⟨m, i, o, ss⟩ := r
  obtain ⟨m', i', o', ss'⟩ := r'
  simp only [rdF, D.ins.injEq, true_and, List.cons.injEq, Prod.mk.injEq, D.str.injEq, D.tup.injEq, and_true] at h
  obtain ⟨rfl, rfl, rfl, h4⟩ := h
  rw [stsD_inj h4]
theorem rd_mark {r : RdT} : List.lookup ("_mark" : Str) (rdF r) = some (.str r.m) := rfl
theorem rd_states {r : RdT} : List.lookup ("_states" : Str) (rdF r) = some (.tup (stsD r.ss)) := rfl
def preR (c : Addr) : List D → Prop := fun ds => ∃ r : RdT, ds = [.ins c (rdF r)] ∧ GoodRd r
def postR (c : Addr) (f : RdT → D) : List D → D → Prop := fun ds d => ∃ r : RdT, ds = [.ins c (rdF r)] ∧ GoodRd r ∧ d = f r
theorem postR_of {c : Addr} {f : RdT → D} {r : RdT} {d : D} (h : postR c f [.ins c (rdF r)] d) : d = f r := by
  obtain ⟨r', e, _, rfl⟩ := h
  rw [rdF_inj (List.cons.inj e).1]
theorem ok_Reader_mark {P : Program} {w : World} {K : PySem.W.Frag} {mg : Str → Option Value} {base : Heap} (T : Txt K mg) : FnOk P w K mg base CX0 2 T.f_Reader_mark T.fd_Reader_mark ["self"] (spD K (preR T.c_Reader) (postR T.c_Reader fun r => .str r.m)) := by
  refine T.F_Reader_mark.ok sc_Reader_mark (spD_len fun ds ⟨r, e, _⟩ => by rw [e]; rfl) (fun cdv A outer s H vs Q E hr h => ?_)
  refine ⟨_, (pss_one (ps_ret (peFld K (pv 0) rfl))), ?_⟩
  refine enterD h fun M ds pre _ => ?_
  obtain ⟨r, rfl, g⟩ := pre
  exact do_ret (ev_fld T.cf_Reader.cl T.na_Reader_mark (ev_var rfl ⟨_, _, rfl, rd_mark, r, rfl, g, rfl⟩))
theorem first_st {P : Nat} {ss : List StT} (g : GoodSts P ss) : ∃ s r, ss = s :: r ∧ s.2.1.length = partsOf ss := by
  cases ss with
  | nil => have := g.n0; simp at this
  | cons s r => exact ⟨s, r, rfl, rfl⟩
theorem ok_Reader_parts {P : Program} {w : World} {K : PySem.W.Frag} {mg : Str → Option Value} {base : Heap} (T : Txt K mg) : FnOk P w K mg base CX0 2 T.f_Reader_parts T.fd_Reader_parts ["self"] (spD K (preR T.c_Reader) (postR T.c_Reader fun r => .int (partsOf r.ss : Int))) := by
  refine T.F_Reader_parts.ok sc_Reader_parts (spD_len fun ds ⟨r, e, _⟩ => by rw [e]; rfl) (fun cdv A outer s H vs Q E hr h => ?_)
  refine ⟨_, (pss_one (ps_ret (pe_callB (callLen K) (by rfl) T.b_len (by decide +kernel) (pa_cons (pe_ix (ixT K) (pe_ix (ixT K) (peFld K (pv 0) rfl) pe_int (fun _ _ => rfl)) pe_int (fun _ _ => rfl)) pa_nil)))), ?_⟩
  refine enterD h fun M ds pre _ => ?_
  obtain ⟨r, rfl, g⟩ := pre
  have p4 := g.ss.p4
  obtain ⟨s0, ss', hss, hl⟩ := first_st g.ss
  refine do_ret (ev_cb (ea_cons (ev_op (ev_op (ev_fld T.cf_Reader.cl T.na_Reader_states (ev_var rfl ⟨_, _, rfl, rd_states, ev_int (od_ixT (d := stD s0) (by rw [hss]; exact atI_nat (j := 0) (by simp [stsD])) (ev_int (od_ixT (d := .tup (s0.2.1.map .int)) rfl ?_)))⟩))))))
  exact ea_nil (cd_lenK (k := partsOf r.ss) (by simp [lenD, hl]) (by omega) ⟨r, rfl, g, rfl⟩)
def postSts (c : Addr) : List D → List D → Prop := fun ds es => ∃ r : RdT, ds = [.ins c (rdF r)] ∧ es = stsD r.ss
theorem ok_Reader_states {P : Program} {w : World} {K : PySem.W.Frag} {mg : Str → Option Value} {base : Heap} (T : Txt K mg) : FnOk P w K mg base CX0 2 T.f_Reader_states T.fd_Reader_states ["self"] (spN K (preR T.c_Reader) (postSts T.c_Reader)) := by
  refine T.F_Reader_states.ok sc_Reader_states (spN_len fun ds ⟨r, e, _⟩ => by rw [e]; rfl) (fun cdv A outer s H vs Q E hr h => ?_)
  refine ⟨_, (pss_one (ps_ret (pe_callTy (callList K) (by rfl) T.b_list (by decide +kernel) (pa_cons (peFld K (pv 0) rfl) pa_nil)))), ?_⟩
  refine enterN1 h fun M ds pre _ => ?_
  obtain ⟨r, rfl, g⟩ := pre
  exact en_listOf (ev_fld T.cf_Reader.cl T.na_Reader_states (ev_var rfl ⟨_, _, rfl, rd_states, _, .inr rfl, r, rfl, rfl⟩))
theorem sts_of {c : Addr} {r : RdT} {es : List D} (h : postSts c [.ins c (rdF r)] es) : es = stsD r.ss := by
  obtain ⟨r', e, rfl⟩ := h
  rw [rdF_inj (List.cons.inj e).1]
theorem ok_Reader_len {P : Program} {w : World} {K : PySem.W.Frag} {mg : Str → Option Value} {base : Heap} (T : Txt K mg) : FnOk P w K mg base CX0 2 T.f_Reader_len T.fd_Reader_len ["self"] (spD K (preR T.c_Reader) (postR T.c_Reader fun r => .int (r.ss.length : Int))) := by
  refine T.F_Reader_len.ok sc_Reader_len (spD_len fun ds ⟨r, e, _⟩ => by rw [e]; rfl) (fun cdv A outer s H vs Q E hr h => ?_)
  refine ⟨_, (pss_one (ps_ret (pe_callB (callLen K) (by rfl) T.b_len (by decide +kernel) (pa_cons (peFld K (pv 0) rfl) pa_nil)))), ?_⟩
  refine enterD h fun M ds pre _ => ?_
  obtain ⟨r, rfl, g⟩ := pre
  have n6 := g.ss.n6
  exact do_ret (ev_cb (ea_cons (ev_fld T.cf_Reader.cl T.na_Reader_states (ev_var rfl ⟨_, _, rfl, rd_states, ea_nil (cd_lenK (k := r.ss.length) (by simp [lenD, stsD]) (by omega) ⟨r, rfl, g, rfl⟩)⟩))))

end Pf

set_option maxHeartbeats 16000000
namespace Pf
open PySem L2 PfL RZ
local macro_rules | `(tactic| walk_at "ev") => `(tactic| first
  | ((with_reducible refine' ev_var ?h ?_); (case h => rfl))
  | with_reducible refine ev_int ?_
  | with_reducible refine ev_bl ?_
  | with_reducible refine ev_str ?_
  | with_reducible refine ev_non ?_
  | with_reducible refine ev_ty ?_
  | with_reducible refine ev_op ?_
  | with_reducible refine ev_un ?_
  | with_reducible refine ev_chain ?_
  | with_reducible refine ev_if ?_
  | with_reducible refine ev_and ?_
  | with_reducible refine ev_or ?_
  | with_reducible refine ev_not ?_
  | with_reducible refine ev_lst ?_
  | with_reducible refine ev_tup ?_
  | with_reducible refine ea_nil ?_
  | with_reducible refine ea_cons ?_
  | with_reducible refine ev_cb ?_
  | with_reducible refine et_test ?_
  | with_reducible refine et_B ?_
  | with_reducible refine et_and ?_
  | with_reducible refine et_or ?_
  | with_reducible refine et_not ?_
  | with_reducible refine et_yes ?_
  | with_reducible refine eo_none ?_
  | with_reducible refine eo_some ?_
  | with_reducible refine ev_slS ?_
  | with_reducible refine od_int ?_
  | with_reducible refine od_bl ?_
  | with_reducible refine od_eq_int ?_
  | with_reducible refine od_ne_int ?_
  | with_reducible refine od_eq_bl ?_
  | with_reducible refine od_ne_bl ?_
  | with_reducible refine od_eq_str ?_
  | with_reducible refine od_ne_str ?_
  | with_reducible refine od_leS ?_
  | with_reducible refine ud_isN ?_
  | with_reducible refine ud_notN ?_
  | with_reducible refine do_seq ?_
  | with_reducible refine do_set ?_
  | with_reducible refine do_ret ?_
  | with_reducible refine do_retN ?_
  | with_reducible refine do_if ?_
  | with_reducible refine do_next ?_
  | with_reducible refine tg_name ?_
  | with_reducible refine tgs_nil ?_
  | with_reducible refine tgs_cons ?_)
/-! ### readers as the laws draw them -/
def specD (r : RdT) : D := .tup [.str r.m, .str r.i, .str r.o, .lst (stsD r.ss)]
theorem do_cut {F : Fm} {t u : TS} {δ : List SD} {R : PD} (I : List SD → Prop) (h : Do F t δ { R with nx := I }) (k : ∀ δ', I δ' → Do F u δ' R) : Do F (tSeq t u) δ R :=
  do_seq (h.imp (fun δ' i => k δ' i) (fun _ x => x) (fun _ x => x) (fun _ x => x))
theorem goal_one {n : Int} {d : D} (h : d ∈ upto 0 n.toNat ++ [D.non]) : ∃ o, d = optD o ∧ OptIn n o := by
  rcases List.mem_append.mp h with h | h
  · unfold upto at h
    obtain ⟨k, hk, rfl⟩ := List.mem_map.mp h
    have hk := List.mem_range.mp hk
    exact ⟨some (0 + (k : Nat)), rfl, fun i e => by cases e; omega⟩
  · rw [List.mem_singleton.mp h]
    exact ⟨none, rfl, fun i e => by cases e⟩
theorem goal_mem {n : Int} {d : D} (h : d ∈ upto 0 n.toNat ++ upto 0 n.toNat ++ [D.non]) : ∃ o, d = optD o ∧ OptIn n o := by
  refine goal_one ?_
  rcases List.mem_append.mp h with h | h
  · rcases List.mem_append.mp h with h | h
    · exact List.mem_append_left _ h
    · exact List.mem_append_left _ h
  · exact List.mem_append_right _ h
def preState : List D → Prop := fun ds => ∃ P n : Int, ds = [.int P, .int n] ∧ 1 ≤ P ∧ P ≤ 4 ∧ 1 ≤ n ∧ n ≤ 6
def postState : List D → D → Prop := fun ds d => ∃ (P n : Int) (s : StT), ds = [.int P, .int n] ∧ d = stD s ∧ GoodSt n P.toNat s
theorem ok_state {P : Program} {w : World} {K : PySem.W.Frag} {mg : Str → Option Value} {base : Heap} (T : Txt K mg) : FnOk P w K mg base CX0 6 T.f_state T.fd_state ["_law_bag", "_law_parts", "_law_many"] (spB K preState postState) := by
  refine T.F_state.ok sc_state (spB_len fun ds ⟨P, n, e, _⟩ => by rw [e]; rfl) (fun cdv A outer s H vs Q E hr h => ?_)
  refine ⟨_, (pss_cons (ps_set (i := 3) sc_state.nd rfl (Or.inr rfl) (pe_op op_add pe_int (pe_call (ok_of T) (hr.mono (by decide)) rfl T.g_of T.k_of T.bd_of .nil pass0 (pa_cons (pv 0) (pa_cons (pe_lst (pa_cons pe_int (pa_cons pe_int (pa_cons pe_int (pa_cons pe_int (pa_cons pe_int (pa_cons (pe_call (ok_draw T) (hr.mono (by decide)) rfl T.g_draw T.k_draw T.bd_draw .nil pass0 (pa_cons (pv 0) (pa_cons pe_int pa_nil))) pa_nil))))))) pa_nil)))))
    (pss_cons (ps_set (i := 4) sc_state.nd rfl (Or.inl rfl) (pe_callTy (callTuple K) (by rfl) T.b_tuple (by decide +kernel) (pa_cons (pe_lc (own := [("_law_part", 6)]) rfl sc_state.nd (pi_range1 (by rfl) T.b_range (pa_cons (pv 1) pa_nil)) (blkOk_by (N := N_state) (sc := defScope s_state) (by decide +kernel)) (fun _ _ _ _ _ => (pg_name (i := 6) sc_state.nd rfl (Or.inl rfl))) (fun _ _ _ _ _ => pts_nil) (fun _ _ _ _ _ => (pe_call (ok_of T) (hr.mono (by decide)) rfl T.g_of T.k_of T.bd_of .nil pass0 (pa_cons (pv 0) (pa_cons (pe_lst (pa_cons (pv 3) (pa_cons (pv 3) (pa_cons pe_int (pa_cons pe_int (pa_cons (pe_op op_add pe_int (pe_call (ok_draw T) (hr.mono (by decide)) rfl T.g_draw T.k_draw T.bd_draw .nil pass0 (pa_cons (pv 0) (pa_cons pe_int pa_nil)))) pa_nil)))))) pa_nil))))) pa_nil)))
    (pss_cons (ps_set (i := 5) sc_state.nd rfl (Or.inl rfl) (pe_op op_cat (pe_op op_cat (pe_listRg rfl (by rfl) T.b_list (prg_1 (by rfl) T.b_range (pv 2))) (pe_listRg rfl (by rfl) T.b_list (prg_1 (by rfl) T.b_range (pv 2)))) (pe_lst (pa_cons pe_non pa_nil))))
    (pss_one (ps_ret (pe_tup (pa_cons (pv 3) (pa_cons (pv 4) (pa_cons (pe_call (ok_of T) (hr.mono (by decide)) rfl T.g_of T.k_of T.bd_of .nil pass0 (pa_cons (pv 0) (pa_cons (pv 5) pa_nil))) (pa_cons (pe_call (ok_of T) (hr.mono (by decide)) rfl T.g_of T.k_of T.bd_of .nil pass0 (pa_cons (pv 0) (pa_cons (pv 5) pa_nil))) pa_nil)))))))))), ?_⟩
  refine enterB h fun M b c ds pre _ => ?_
  obtain ⟨P, n, rfl, p1, p4, n1, n6⟩ := pre
  refine do_seq (do_set (ev_op (ev_int (ev_ofL rfl rfl ?_))))
  refine ea_cons (ev_lst ?_)
  iterate 5 refine ea_cons (ev_int ?_)
  refine ea_cons (ev_draw rfl rfl (ea_cons (ev_int (ea_nil ⟨9, rfl, by decide, by decide, fun r r0 r1 => ?_⟩))))
  refine ea_nil ⟨by simp, ea_nil ⟨_, rfl, by simp, by simp, fun d hd => ?_⟩⟩
  obtain ⟨z, rfl, z0, z1⟩ : ∃ z : Int, d = .int z ∧ 0 ≤ z ∧ z ≤ 8 := by
    simp only [List.mem_cons, List.not_mem_nil, or_false] at hd
    rcases hd with rfl | rfl | rfl | rfl | rfl | rfl <;> exact ⟨_, rfl, by omega, by omega⟩
  refine od_int ?_
  have s0 : 1 ≤ 1 + z := by omega
  have s1 : 1 + z ≤ 9 := by omega
  generalize 1 + z = sz at s0 s1 ⊢
  clear hd z0 z1 r0 r1
  refine do_letP (fun d => ∃ as : List Int, d = .tup (as.map .int) ∧ as.length = P.toNat ∧ ∀ a ∈ as, 1 ≤ a ∧ a ≤ 9) (ev_cb (ea_cons (EvN.ev ?_))) ?_
  · refine en_lc (js := [6]) (PX := fun l => l = upto 0 P.toNat) (it_range1 (ea_cons (ev_var rfl (ea_nil ⟨P, rfl, by omega, by omega, rfl⟩)))) (fun l e => by rw [e, upto_len]; omega) (by decide) (fun l i acc => ∃ as : List Int, acc = as.map .int ∧ as.length = i ∧ ∀ a ∈ as, 1 ≤ a ∧ a ≤ 9) (fun l e => ⟨[], rfl, rfl, fun a h => by cases h⟩) ?_ ?_
    · rintro l i d acc rfl hi ⟨as, rfl, hl, ha⟩
      refine tg_name (et_yes ⟨fun _ => ?_, fun h => nomatch h⟩)
      refine ev_ofL rfl rfl ?_
      refine ea_cons (ev_lst ?_)
      iterate 2 refine ea_cons (ev_var (d := .int sz) rfl ?_)
      iterate 2 refine ea_cons (ev_int ?_)
      refine ea_cons (ev_op (ev_int (ev_draw rfl rfl (ea_cons (ev_int (ea_nil ⟨9, rfl, by decide, by decide, fun q q0 q1 => od_int ?_⟩))))))
      refine ea_nil ⟨by simp, ea_nil ⟨_, rfl, by simp, by simp, fun d hd => ?_⟩⟩
      obtain ⟨a, rfl, a0, a1⟩ : ∃ a : Int, d = .int a ∧ 1 ≤ a ∧ a ≤ 9 := by
        simp only [List.mem_cons, List.not_mem_nil, or_false] at hd
        rcases hd with rfl | rfl | rfl | rfl | rfl <;> exact ⟨_, rfl, by omega, by omega⟩
      refine ⟨as ++ [a], by simp, by simp [hl], fun x hx => ?_⟩
      rcases List.mem_append.mp hx with hx | hx
      · exact ha x hx
      · rw [List.mem_singleton.mp hx]
        exact ⟨a0, a1⟩
    · rintro l ds rfl ⟨as, rfl, hl, ha⟩
      rw [upto_len] at hl
      exact ea_nil (cd_tupL ⟨as, rfl, hl, ha⟩)
  rintro x ⟨as, rfl, hl, ha⟩
  refine do_let (.lst (upto 0 n.toNat ++ upto 0 n.toNat ++ [.non])) ?_ ?_
  · refine ev_op (ev_op (EvN.ev (en_lstRg1 (ev_var rfl ⟨n, rfl, by omega, by omega, ?_⟩))))
    refine EvN.ev (en_lstRg1 (ev_var rfl ⟨n, rfl, by omega, by omega, od_cat (by rw [upto_len]; omega) ?_⟩))
    exact ev_lst (ea_cons (ev_non (ea_nil ⟨by simp, od_cat (by simp [upto_len]; omega) rfl⟩)))
  refine do_ret (ev_tup (ea_cons (ev_var rfl (ea_cons (ev_var rfl ?_)))))
  refine ea_cons (ev_ofL rfl rfl (ea_cons (ev_var rfl (ea_nil ⟨_, rfl, by simp, by simp [upto_len]; omega, fun d hd => ?_⟩))))
  obtain ⟨o1, rfl, g1⟩ := goal_mem hd
  refine ea_cons (ev_ofL rfl rfl (ea_cons (ev_var rfl (ea_nil ⟨_, rfl, by simp, by simp [upto_len]; omega, fun d hd => ?_⟩))))
  obtain ⟨o2, rfl, g2⟩ := goal_mem hd
  exact ea_nil ⟨by simp, P, n, (sz, as, o1, o2), rfl, rfl, ⟨s0, s1, hl, ha, g1, g2⟩⟩
def preSpec : List D → Prop := fun ds => ∃ P m : Int, ds = [.int P, .int m] ∧ 1 ≤ P ∧ P ≤ 4 ∧ 1 ≤ m ∧ m ≤ 6
def postSpec : List D → D → Prop := fun ds d => ∃ (P m : Int) (r : RdT), ds = [.int P, .int m] ∧ d = specD r ∧ GoodRd r ∧ partsOf r.ss = P.toNat ∧ (r.ss.length : Int) ≤ m
theorem ok_spec {P : Program} {w : World} {K : PySem.W.Frag} {mg : Str → Option Value} {base : Heap} (T : Txt K mg) : FnOk P w K mg base CX0 8 T.f_spec T.fd_spec ["_law_bag", "_law_parts", "_law_most"] (spB K preSpec postSpec) := by
  refine T.F_spec.ok sc_spec (spB_len fun ds ⟨P, n, e, _⟩ => by rw [e]; rfl) (fun cdv A outer s H vs Q E hr h => ?_)
  refine ⟨_, (pss_cons (ps_set (i := 3) sc_spec.nd rfl (Or.inr rfl) (pe_op op_add pe_int (pe_call (ok_draw T) (hr.mono (by decide)) rfl T.g_draw T.k_draw T.bd_draw .nil pass0 (pa_cons (pv 0) (pa_cons (pv 2) pa_nil)))))
    (pss_cons (ps_set (i := 4) sc_spec.nd rfl (Or.inl rfl) (pe_call (ok_of T) (hr.mono (by decide)) rfl T.g_of T.k_of T.bd_of .nil pass0 (pa_cons (pv 0) (pa_cons (pe_lst (pa_cons pe_str (pa_cons pe_str (pa_cons pe_str (pa_cons pe_str (pa_cons pe_str (pa_cons pe_str (pa_cons pe_str pa_nil)))))))) pa_nil))))
    (pss_cons (ps_par (i := 5) (j := 6) rfl sc_spec.nd rfl rfl (by decide) rfl rfl (pa_cons (pe_call (ok_of T) (hr.mono (by decide)) rfl T.g_of T.k_of T.bd_of .nil pass0 (pa_cons (pv 0) (pa_cons (pe_lst (pa_cons pe_str (pa_cons pe_str (pa_cons pe_str pa_nil)))) pa_nil))) (pa_cons (pe_call (ok_of T) (hr.mono (by decide)) rfl T.g_of T.k_of T.bd_of .nil pass0 (pa_cons (pv 0) (pa_cons (pe_lst (pa_cons pe_str (pa_cons pe_str (pa_cons pe_str (pa_cons pe_str pa_nil))))) pa_nil))) pa_nil)) rfl)
    (pss_one (ps_ret (pe_tup (pa_cons (pv 4) (pa_cons (pv 5) (pa_cons (pv 6) (pa_cons (pe_lc (own := [("_law_k", 7)]) rfl sc_spec.nd (pi_range1 (by rfl) T.b_range (pa_cons (pv 3) pa_nil)) (blkOk_by (N := N_spec) (sc := defScope s_spec) (by decide +kernel)) (fun _ _ _ _ _ => (pg_name (i := 7) sc_spec.nd rfl (Or.inl rfl))) (fun _ _ _ _ _ => pts_nil) (fun _ _ _ _ _ => (pe_call (ok_state T) (hr.mono (by decide)) rfl T.g_state T.k_state T.bd_state .nil pass0 (pa_cons (pv 0) (pa_cons (pv 1) (pa_cons (pv 3) pa_nil)))))) pa_nil)))))))))), ?_⟩
  refine enterB h fun M b c ds pre _ => ?_
  obtain ⟨P, m, rfl, p1, p4, m1, m6⟩ := pre
  refine do_seq (do_set (ev_op (ev_int (ev_draw rfl rfl (ea_cons (ev_var rfl (ea_nil ⟨m, rfl, by omega, by omega, fun r r0 r1 => od_int ?_⟩)))))))
  have n1 : 1 ≤ 1 + r := by omega
  have n2 : 1 + r ≤ m := by omega
  generalize 1 + r = n at n1 n2 ⊢
  clear r0 r1
  refine do_letP (fun d => ∃ z : Str, d = .str z ∧ z ∈ marks) (ev_ofL rfl rfl ?_) ?_
  · repeat walk_at "ev"
    refine ⟨by simp, ea_nil ⟨_, rfl, by simp, by simp, fun d hd => ?_⟩⟩
    simp only [List.mem_cons, List.not_mem_nil, or_false] at hd
    rcases hd with rfl | rfl | rfl | rfl | rfl | rfl | rfl <;> exact ⟨_, rfl, by decide⟩
  rintro x ⟨mk, rfl, hm⟩
  refine do_seq (do_par2 (Ev.imp (P := fun d => ∃ z : Str, d = .str z ∧ z ∈ inners) (ev_ofL rfl rfl ?_) ?_))
  · repeat walk_at "ev"
    refine ⟨by simp, ea_nil ⟨_, rfl, by simp, by simp, fun d hd => ?_⟩⟩
    simp only [List.mem_cons, List.not_mem_nil, or_false] at hd
    rcases hd with rfl | rfl | rfl <;> exact ⟨_, rfl, by decide⟩
  rintro x ⟨iz, rfl, hiz⟩
  refine Ev.imp (P := fun d => ∃ z : Str, d = .str z ∧ z ∈ orders) (ev_ofL rfl rfl ?_) ?_
  · repeat walk_at "ev"
    refine ⟨by simp, ea_nil ⟨_, rfl, by simp, by simp, fun d hd => ?_⟩⟩
    simp only [List.mem_cons, List.not_mem_nil, or_false] at hd
    rcases hd with rfl | rfl | rfl | rfl <;> exact ⟨_, rfl, by decide⟩
  rintro x ⟨oz, rfl, hoz⟩
  refine do_ret (ev_tup (ea_cons (ev_var rfl (ea_cons (ev_var rfl (ea_cons (ev_var rfl (ea_cons (EvN.ev ?_)))))))))
  refine en_lc (js := [7]) (PX := fun l => l = upto 0 n.toNat) (it_range1 (ea_cons (ev_var rfl (ea_nil ⟨n, rfl, by omega, by omega, rfl⟩)))) (fun l e => by rw [e, upto_len]; omega) (by decide) (fun l i acc => ∃ ss : List StT, acc = stsD ss ∧ ss.length = i ∧ ∀ s ∈ ss, GoodSt n P.toNat s) (fun l e => ⟨[], rfl, rfl, fun a h => by cases h⟩) ?_ ?_
  · rintro l i d acc rfl hi ⟨ss, rfl, hl, hs⟩
    refine tg_name (et_yes ⟨fun _ => ?_, fun h => nomatch h⟩)
    refine ev_callB rfl rfl (ea_cons (ev_var rfl (ea_cons (ev_var rfl (ea_nil ⟨⟨P, n, rfl, p1, p4, n1, by omega⟩, fun d hd => ?_⟩)))))
    obtain ⟨P', n', s, e, rfl, gs⟩ := hd
    simp only [List.cons.injEq, D.int.injEq, and_true] at e
    obtain ⟨rfl, rfl⟩ := e
    refine ⟨ss ++ [s], by simp [stsD], by simp [hl], fun x hx => ?_⟩
    rcases List.mem_append.mp hx with hx | hx
    · exact hs x hx
    · rw [List.mem_singleton.mp hx]
      exact gs
  · rintro l ds rfl ⟨ss, rfl, hl, hs⟩
    rw [upto_len] at hl
    have gss : GoodSts P.toNat ss := ⟨by omega, by omega, by omega, by omega, fun s hs' => by
      have := hs s hs'
      rw [show ((ss.length : Nat) : Int) = n by omega]
      exact this⟩
    have hp := gss.parts
    exact ea_nil ⟨by simp, P, m, ⟨mk, iz, oz, ss⟩, rfl, rfl, ⟨hm, hiz, hoz, by rw [hp]; exact gss⟩, hp, by show (ss.length : Int) ≤ m; omega⟩
theorem ok_good_spec {P : Program} {w : World} {K : PySem.W.Frag} {mg : Str → Option Value} {base : Heap} (T : Txt K mg) : FnOk P w K mg base CX0 8 T.f_good_spec T.fd_good_spec ["_law_bag", "_law_parts", "_law_most"] (spB K preSpec postSpec) := by
  refine T.F_good_spec.ok sc_good_spec (spB_len fun ds ⟨P, n, e, _⟩ => by rw [e]; rfl) (fun cdv A outer s H vs Q E hr h => ?_)
  refine ⟨_, (pss_cons (ps_par (i := 3) (j := 4) rfl sc_good_spec.nd rfl rfl (by decide) rfl rfl (pa_cons (pe_op op_add pe_int (pe_call (ok_draw T) (hr.mono (by decide)) rfl T.g_draw T.k_draw T.bd_draw .nil pass0 (pa_cons (pv 0) (pa_cons (pv 2) pa_nil)))) (pa_cons (pe_lst (pa_cons (pe_tup (pa_cons pe_str (pa_cons pe_str pa_nil))) (pa_cons (pe_tup (pa_cons pe_str (pa_cons pe_str pa_nil))) (pa_cons (pe_tup (pa_cons pe_str (pa_cons pe_str pa_nil))) pa_nil)))) pa_nil)) rfl)
    (pss_cons (ps_set (i := 5) sc_good_spec.nd rfl (Or.inl rfl) (pe_call (ok_of T) (hr.mono (by decide)) rfl T.g_of T.k_of T.bd_of .nil pass0 (pa_cons (pv 0) (pa_cons (pe_lst (pa_cons pe_str (pa_cons pe_str (pa_cons pe_str (pa_cons pe_str (pa_cons pe_str pa_nil)))))) pa_nil))))
    (pss_cons (ps_asg (pe_ifExp (pt_cmpR (opIn K) (pv 5) (pe_lst (pa_cons pe_str (pa_cons pe_str pa_nil))) (by with_unfolding_all rfl)) (pe_ix (ixL K) (pv 4) pe_int (fun _ _ => rfl)) (pe_call (ok_of T) (hr.mono (by decide)) rfl T.g_of T.k_of T.bd_of .nil pass0 (pa_cons (pv 0) (pa_cons (pv 4) pa_nil)))) (pgTup K (n := 2) rfl (pgs_cons (pg_name (i := 6) sc_good_spec.nd rfl (Or.inl rfl)) (pgs_cons (pg_name (i := 7) sc_good_spec.nd rfl (Or.inl rfl)) pgs_nil))))
    (pss_cons (ps_if (pt_cmpR op_eq (pv 5) pe_str (nomark _)) (pss_one (ps_par (i := 6) (j := 7) rfl sc_good_spec.nd rfl rfl (by decide) rfl rfl (pa_cons (pe_call (ok_of T) (hr.mono (by decide)) rfl T.g_of T.k_of T.bd_of .nil pass0 (pa_cons (pv 0) (pa_cons (pe_lst (pa_cons pe_str (pa_cons pe_str pa_nil))) pa_nil))) (pa_cons (pe_call (ok_of T) (hr.mono (by decide)) rfl T.g_of T.k_of T.bd_of .nil pass0 (pa_cons (pv 0) (pa_cons (pe_lst (pa_cons pe_str (pa_cons pe_str (pa_cons pe_str pa_nil)))) pa_nil))) pa_nil)) rfl)) pss_nil)
    (pss_cons (ps_set (i := 8) sc_good_spec.nd rfl (Or.inl rfl) (pe_lst pa_nil))
    (pss_cons (ps_for PassesOwn.never rfl (pi_range1 (by rfl) T.b_range (pa_cons (pv 3) pa_nil)) (pg_name (i := 9) sc_good_spec.nd rfl (Or.inl rfl))
      (pss_cons (ps_set (i := 10) sc_good_spec.nd rfl (Or.inr rfl) (pe_op op_add pe_int (pe_call (ok_of T) (hr.mono (by decide)) rfl T.g_of T.k_of T.bd_of .nil pass0 (pa_cons (pv 0) (pa_cons (pe_lst (pa_cons pe_int (pa_cons pe_int (pa_cons pe_int (pa_cons (pe_call (ok_draw T) (hr.mono (by decide)) rfl T.g_draw T.k_draw T.bd_draw .nil pass0 (pa_cons (pv 0) (pa_cons pe_int pa_nil))) pa_nil))))) pa_nil)))))
      (pss_cons (ps_set (i := 11) sc_good_spec.nd rfl (Or.inl rfl) (pe_callTy (callTuple K) (by rfl) T.b_tuple (by decide +kernel) (pa_cons (pe_lc (own := [("_law_part", 12)]) rfl sc_good_spec.nd (pi_range1 (by rfl) T.b_range (pa_cons (pv 1) pa_nil)) (blkOk_by (N := N_good_spec) (sc := defScope s_good_spec) (by decide +kernel)) (fun _ _ _ _ _ => (pg_name (i := 12) sc_good_spec.nd rfl (Or.inl rfl))) (fun _ _ _ _ _ => pts_nil) (fun _ _ _ _ _ => (pe_op op_add (pv 10) (pe_call (ok_draw T) (hr.mono (by decide)) rfl T.g_draw T.k_draw T.bd_draw .nil pass0 (pa_cons (pv 0) (pa_cons (pe_op op_sub pe_int (pv 10)) pa_nil)))))) pa_nil)))
      (pss_one (ps_expr (pe_bm PySem.F.plainAttrs_list PySem.F.slot_list_append PySem.F.type_list_append (mt_append) (pv 8) (pa_cons (pe_tup (pa_cons (pv 10) (pa_cons (pv 11) (pa_cons (pe_call (ok_draw T) (hr.mono (by decide)) rfl T.g_draw T.k_draw T.bd_draw .nil pass0 (pa_cons (pv 0) (pa_cons (pv 3) pa_nil))) (pa_cons (pe_call (ok_of T) (hr.mono (by decide)) rfl T.g_of T.k_of T.bd_of .nil pass0 (pa_cons (pv 0) (pa_cons (pe_op op_cat (pe_listRg rfl (by rfl) T.b_list (prg_1 (by rfl) T.b_range (pv 3))) (pe_lst (pa_cons pe_non pa_nil))) pa_nil))) pa_nil))))) pa_nil)))))))
    (pss_one (ps_ret (pe_tup (pa_cons (pv 5) (pa_cons (pv 6) (pa_cons (pv 7) (pa_cons (pv 8) pa_nil))))))))))))), ?_⟩
  refine enterB h fun M b c ds pre _ => ?_
  obtain ⟨P, m, rfl, p1, p4, m1, m6⟩ := pre
  let ways : List D := [.tup [.str "up", .str "number"], .tup [.str "up", .str "number"], .tup [.str "down", .str "back"]]
  refine do_seq (do_par2 (ev_op (ev_int (ev_draw rfl rfl (ea_cons (ev_var rfl (ea_nil ⟨m, rfl, by omega, by omega, fun r r0 r1 => od_int ?_⟩)))))))
  have n1 : 1 ≤ 1 + r := by omega
  have n2 : 1 + r ≤ m := by omega
  generalize 1 + r = n at n1 n2 ⊢
  clear r0 r1
  refine Ev.imp (P := fun d => d = .lst ways) ?_ ?_
  · refine ev_lst (ea_cons (ev_tup (ea_cons (ev_str (ea_cons (ev_str (ea_nil ⟨by simp, ?_⟩)))))))
    refine ea_cons (ev_tup (ea_cons (ev_str (ea_cons (ev_str (ea_nil ⟨by simp, ?_⟩))))))
    refine ea_cons (ev_tup (ea_cons (ev_str (ea_cons (ev_str (ea_nil ⟨by simp, ?_⟩))))))
    exact ea_nil ⟨by simp, rfl⟩
  rintro x rfl
  refine do_letP (fun d => ∃ z : Str, d = .str z ∧ z ∈ marks) (ev_ofL rfl rfl ?_) ?_
  · repeat walk_at "ev"
    refine ⟨by simp, ea_nil ⟨_, rfl, by simp, by simp, fun d hd => ?_⟩⟩
    simp only [List.mem_cons, List.not_mem_nil, or_false] at hd
    rcases hd with rfl | rfl | rfl | rfl | rfl <;> exact ⟨_, rfl, by decide⟩
  rintro x ⟨mk, rfl, hm⟩
  have wayOk : ∀ d ∈ ways, ∃ i o : Str, d = .tup [.str i, .str o] ∧ i ∈ inners ∧ o ∈ orders := fun d hd => by
    simp only [ways, List.mem_cons, List.not_mem_nil, or_false] at hd
    rcases hd with rfl | rfl | rfl <;> exact ⟨_, _, rfl, by decide, by decide⟩
  refine do_seq (do_asg (js := [6, 7]) (Ev.imp (P := fun d => ∃ i o : Str, d = .tup [.str i, .str o] ∧ i ∈ inners ∧ o ∈ orders) (ev_if (et_test (ev_op (ev_var rfl (ev_lst (ea_cons (ev_str (ea_cons (ev_str (ea_nil ⟨by simp, od_inStrs (zs := ["row", "each"]) (neg := false) (t := false) ⟨_, rfl, fun _ => ?_, fun _ => ?_⟩⟩)))))))))) ?_))
  · exact ev_op (ev_var rfl (ev_int (od_ixL (d := .tup [.str "up", .str "number"]) rfl ⟨_, _, rfl, by decide, by decide⟩)))
  · exact ev_ofL rfl rfl (ea_cons (ev_var rfl (ea_nil ⟨ways, rfl, by simp [ways], by simp [ways], wayOk⟩)))
  rintro x ⟨iz, oz, rfl, hiz, hoz⟩
  refine tg_tup rfl (tgs_cons (js := [6]) (ks := [7]) (tg_name (tgs_cons (js := [7]) (ks := []) (tg_name (tgs_nil ?_)))))
  refine do_cut (fun δ' => ∃ iz oz : Str, iz ∈ inners ∧ oz ∈ orders ∧ δ' = [.bag, .dat (.int P), .dat (.int m), .dat (.int n), .dat (.lst ways), .dat (.str mk), .dat (.str iz), .dat (.str oz), .un, .un, .un, .un, .un]) (do_if (et_test (ev_op (ev_var rfl (ev_str (od_eq_str ⟨_, rfl, fun _ => ?_, fun _ => do_next ⟨iz, oz, hiz, hoz, rfl⟩⟩)))))) ?_
  · refine do_par2 (Ev.imp (P := fun d => ∃ z : Str, d = .str z ∧ z ∈ inners) (ev_ofL rfl rfl ?_) ?_)
    · repeat walk_at "ev"
      refine ⟨by simp, ea_nil ⟨_, rfl, by simp, by simp, fun d hd => ?_⟩⟩
      simp only [List.mem_cons, List.not_mem_nil, or_false] at hd
      rcases hd with rfl | rfl <;> exact ⟨_, rfl, by decide⟩
    rintro x ⟨iz2, rfl, hiz2⟩
    refine Ev.imp (P := fun d => ∃ z : Str, d = .str z ∧ z ∈ orders) (ev_ofL rfl rfl ?_) ?_
    · repeat walk_at "ev"
      refine ⟨by simp, ea_nil ⟨_, rfl, by simp, by simp, fun d hd => ?_⟩⟩
      simp only [List.mem_cons, List.not_mem_nil, or_false] at hd
      rcases hd with rfl | rfl | rfl <;> exact ⟨_, rfl, by decide⟩
    rintro x ⟨oz2, rfl, hoz2⟩
    exact ⟨iz2, oz2, hiz2, hoz2, rfl⟩
  clear hiz hoz iz oz
  rintro δ' ⟨iz, oz, hiz, hoz, rfl⟩
  refine do_seq (do_own (en_lst (ea_nil ⟨by decide, fun p => ?_⟩)))
  refine do_seq ?_
  refine do_for (js := [9]) (PX := fun l => l = upto 0 n.toNat) (it_range1 (ea_cons (ev_var rfl (ea_nil ⟨n, rfl, by omega, by omega, rfl⟩)))) (fun l i δ => ∃ ss z1 z2 z3 z4, δ = [.bag, .dat (.int P), .dat (.int m), .dat (.int n), .dat (.lst ways), .dat (.str mk), .dat (.str iz), .dat (.str oz), .own p (.lst (stsD ss)), z1, z2, z3, z4] ∧ ss.length = i ∧ ∀ s ∈ ss, GoodSt n P.toNat s) (fun l e => ⟨[], _, _, _, _, rfl, rfl, fun s h => by cases h⟩) ?_ ?_
  · rintro l i d δ' rfl hi ⟨ss, z1, z2, z3, z4, rfl, hl, hs⟩
    obtain ⟨hlt, rfl⟩ := upto_get hi
    refine tg_name ?_
    refine do_seq (do_set (ev_op (ev_int (ev_ofL rfl rfl ?_))))
    refine ea_cons (ev_lst ?_)
    iterate 3 refine ea_cons (ev_int ?_)
    refine ea_cons (ev_draw rfl rfl (ea_cons (ev_int (ea_nil ⟨9, rfl, by decide, by decide, fun r r0 r1 => ?_⟩))))
    refine ea_nil ⟨by simp, ea_nil ⟨_, rfl, by simp, by simp, fun d hd => ?_⟩⟩
    obtain ⟨z, rfl, z0, z1⟩ : ∃ z : Int, d = .int z ∧ 0 ≤ z ∧ z ≤ 8 := by
      simp only [List.mem_cons, List.not_mem_nil, or_false] at hd
      rcases hd with rfl | rfl | rfl | rfl <;> exact ⟨_, rfl, by omega, by omega⟩
    refine od_int ?_
    have s0 : 1 ≤ 1 + z := by omega
    have s1 : 1 + z ≤ 9 := by omega
    generalize 1 + z = sz at s0 s1 ⊢
    clear hd z0 z1 r0 r1
    refine do_letP (fun d => ∃ as : List Int, d = .tup (as.map .int) ∧ as.length = P.toNat ∧ ∀ a ∈ as, 1 ≤ a ∧ a ≤ 9) (ev_cb (ea_cons (EvN.ev ?_))) ?_
    · refine en_lc (js := [12]) (PX := fun l => l = upto 0 P.toNat) (it_range1 (ea_cons (ev_var rfl (ea_nil ⟨P, rfl, by omega, by omega, rfl⟩)))) (fun l e => by rw [e, upto_len]; omega) (by decide) (fun l i acc => ∃ as : List Int, acc = as.map .int ∧ as.length = i ∧ ∀ a ∈ as, 1 ≤ a ∧ a ≤ 9) (fun l e => ⟨[], rfl, rfl, fun a h => by cases h⟩) ?_ ?_
      · rintro l i d acc rfl hi ⟨as, rfl, hl, ha⟩
        refine tg_name (et_yes ⟨fun _ => ?_, fun h => nomatch h⟩)
        refine ev_op (ev_var (d := .int sz) rfl (ev_draw rfl rfl (ea_cons (ev_op (ev_int (ev_var (d := .int sz) rfl (od_int (ea_nil ⟨10 - sz, rfl, by omega, by omega, fun q q0 q1 => od_int ?_⟩))))))))
        refine ⟨as ++ [sz + q], by simp, by simp [hl], fun x hx => ?_⟩
        rcases List.mem_append.mp hx with hx | hx
        · exact ha x hx
        · rw [List.mem_singleton.mp hx]
          omega
      · rintro l ds rfl ⟨as, rfl, hl, ha⟩
        rw [upto_len] at hl
        exact ea_nil (cd_tupL ⟨as, rfl, hl, ha⟩)
    rintro x ⟨as, rfl, hla, ha⟩
    refine do_append (i := 8) (p := p) (ds := stsD ss) rfl (by rw [stsD_len]; omega) (ev_tup (ea_cons (ev_var (d := .int sz) rfl (ea_cons (ev_var (d := .tup (as.map .int)) rfl ?_)))))
    refine ea_cons (ev_draw rfl rfl (ea_cons (ev_var (d := .int n) rfl (ea_nil ⟨n, rfl, by omega, by omega, fun q q0 q1 => ?_⟩))))
    refine ea_cons (ev_ofL rfl rfl (ea_cons (ev_op (EvN.ev (en_lstRg1 (ev_var (d := .int n) rfl ⟨n, rfl, by omega, by omega, ?_⟩)))) ))
    refine ev_lst (ea_cons (ev_non (ea_nil ⟨by simp, od_cat (by simp [upto_len]; omega) (ea_nil ⟨_, rfl, by simp, by simp [upto_len]; omega, fun d hd => ?_⟩)⟩)))
    obtain ⟨o2, rfl, g2⟩ := goal_one hd
    have e : stsD ss ++ [D.tup [.int sz, .tup (as.map .int), .int q, optD o2]] = stsD (ss ++ [(sz, as, some q, o2)]) := by simp [stsD, stD, optD]
    refine ea_nil ⟨by simp, ss ++ [(sz, as, some q, o2)], _, _, _, _, by rw [e]; rfl, by simp [hl], fun x hx => ?_⟩
    rcases List.mem_append.mp hx with hx | hx
    · exact hs x hx
    · rw [List.mem_singleton.mp hx]
      exact ⟨s0, s1, hla, ha, fun i e => by cases e; omega, g2⟩
  · rintro l δ' rfl ⟨ss, z1, z2, z3, z4, rfl, hl, hs⟩
    rw [upto_len] at hl
    have gss : GoodSts P.toNat ss := ⟨by omega, by omega, by omega, by omega, fun s hs' => by
      have := hs s hs'
      rw [show ((ss.length : Nat) : Int) = n by omega]
      exact this⟩
    have hp := gss.parts
    refine do_freeze (i := 8) rfl (do_ret (ev_tup ?_))
    iterate 4 refine ea_cons (ev_var rfl ?_)
    exact ea_nil ⟨by simp, P, m, ⟨mk, iz, oz, ss⟩, rfl, rfl, ⟨hm, hiz, hoz, by rw [hp]; exact gss⟩, hp, by show (ss.length : Int) ≤ m; omega⟩
theorem ok_any_spec {P : Program} {w : World} {K : PySem.W.Frag} {mg : Str → Option Value} {base : Heap} (T : Txt K mg) : FnOk P w K mg base CX0 10 T.f_any_spec T.fd_any_spec ["_law_bag", "_law_parts", "_law_most"] (spB K preSpec postSpec) := by
  refine T.F_any_spec.ok sc_any_spec (spB_len fun ds ⟨P, n, e, _⟩ => by rw [e]; rfl) (fun cdv A outer s H vs Q E hr h => ?_)
  refine ⟨_, (pss_one (ps_ret (pe_ifExp (pt_cmpR op_eq (pe_call (ok_draw T) (hr.mono (by decide)) rfl T.g_draw T.k_draw T.bd_draw .nil pass0 (pa_cons (pv 0) (pa_cons pe_int pa_nil))) pe_int (nomark _)) (pe_call (ok_good_spec T) (hr.mono (by decide)) rfl T.g_good_spec T.k_good_spec T.bd_good_spec .nil pass0 (pa_cons (pv 0) (pa_cons (pv 1) (pa_cons (pv 2) pa_nil)))) (pe_call (ok_spec T) (hr.mono (by decide)) rfl T.g_spec T.k_spec T.bd_spec .nil pass0 (pa_cons (pv 0) (pa_cons (pv 1) (pa_cons (pv 2) pa_nil))))))), ?_⟩
  refine enterB h fun M b c ds pre _ => ?_
  obtain ⟨P, m, rfl, p1, p4, m1, m6⟩ := pre
  refine do_ret (ev_if (et_test (ev_op (ev_draw rfl rfl (ea_cons (ev_int (ea_nil ⟨3, rfl, by decide, by decide, fun q _ _ => ev_int (od_eq_int ⟨_, rfl, fun _ => ?_, fun _ => ?_⟩)⟩)))))))
  all_goals exact ev_callB rfl rfl (ea_cons (ev_var rfl (ea_cons (ev_var rfl (ea_nil ⟨⟨P, m, rfl, p1, p4, m1, m6⟩, fun d hd => hd⟩)))))
theorem specD_inj {r r' : RdT} (h : specD r = specD r') : r = r' := by
  obtain ⟨m, i, o, ss⟩ := r
  obtain ⟨m', i', o', ss'⟩ := r'
  simp only [specD, D.tup.injEq, List.cons.injEq, D.str.injEq, D.lst.injEq, and_true] at h
  obtain ⟨rfl, rfl, rfl, h4⟩ := h
  rw [stsD_inj h4]
def preReader : List D → Prop := fun ds => ∃ r : RdT, ds = [specD r] ∧ GoodRd r
def postReader (c : Addr) : List D → D → Prop := fun ds d => ∃ r : RdT, ds = [specD r] ∧ d = .ins c (rdF r)
theorem ok_reader {P : Program} {w : World} {K : PySem.W.Frag} {mg : Str → Option Value} {base : Heap} (T : Txt K mg) : FnOk P w K mg base CX0 16 T.f_reader T.fd_reader ["_law_spec_here"] (spD K preReader (postReader T.c_Reader)) := by
  refine T.F_reader.ok sc_reader (spD_len fun ds ⟨r, e, _⟩ => by rw [e]; rfl) (fun cdv A outer s H vs Q E hr h => ?_)
  refine ⟨_, (pss_one (ps_ret (pe_makeK T.mk_Reader (ok_Reader_init T) (hr.mono (by decide)) rfl T.g_Reader (kw_Reader_init_inner_order T) pass0 (pa_cons (pe_ix (ixT K) (pv 0) pe_int (fun _ _ => rfl)) (pa_cons (pe_callTy (callList K) (by rfl) T.b_list (by decide +kernel) (pa_cons (pe_ix (ixT K) (pv 0) pe_int (fun _ _ => rfl)) pa_nil)) pa_nil)) (pk_cons (pe_ix (ixT K) (pv 0) pe_int (fun _ _ => rfl)) (pk_cons (pe_ix (ixT K) (pv 0) pe_int (fun _ _ => rfl)) pk_nil))))), ?_⟩
  refine enterD h fun M ds pre _ => ?_
  obtain ⟨r, rfl, g⟩ := pre
  refine do_ret (ev_makeMK (gD := gkw_Reader_init_inner_order) (krkw_Reader_init_inner_order K) ?_)
  refine ea_cons (ev_op (ev_var (d := specD r) rfl (ev_int (od_ixT (d := .str r.m) rfl ?_))))
  refine ea_cons (EvN.ev (en_listOf (ev_op (ev_var (d := specD r) rfl (ev_int (od_ixT (d := .lst (stsD r.ss)) rfl ⟨_, .inl rfl, ea_nil ?_⟩))))))
  refine ea_cons (ev_op (ev_var (d := specD r) rfl (ev_int (od_ixT (d := .str r.i) rfl ?_))))
  refine ea_cons (ev_op (ev_var (d := specD r) rfl (ev_int (od_ixT (d := .str r.o) rfl (ea_nil ?_)))))
  refine ⟨rfl, rfl, [.str r.m], .lst (stsD r.ss), stsD r.ss, [.str r.i, .str r.o], fun x => rfl, .inl rfl, ⟨r, rfl, rfl, rfl, g⟩, fun fs hf => ?_⟩
  obtain ⟨r', e1, e2, e3, _, rfl⟩ := hf
  refine ⟨r, rfl, ?_⟩
  obtain ⟨m, i, o, ss⟩ := r
  obtain ⟨m', i', o', ss'⟩ := r'
  simp only [List.cons.injEq, D.str.injEq, and_true] at e1 e2 e3
  obtain ⟨rfl, rfl⟩ := e3
  subst e1
  rw [stsD_inj e2]

end Pf

set_option maxHeartbeats 16000000
namespace Pf
open PySem L2 PfL RZ
local macro_rules | `(tactic| walk_at "ev") => `(tactic| first
  | ((with_reducible refine' ev_var ?h ?_); (case h => rfl))
  | with_reducible refine ev_int ?_
  | with_reducible refine ev_bl ?_
  | with_reducible refine ev_str ?_
  | with_reducible refine ev_non ?_
  | with_reducible refine ev_ty ?_
  | with_reducible refine ev_op ?_
  | with_reducible refine ev_un ?_
  | with_reducible refine ev_chain ?_
  | with_reducible refine ev_if ?_
  | with_reducible refine ev_and ?_
  | with_reducible refine ev_or ?_
  | with_reducible refine ev_not ?_
  | with_reducible refine ev_lst ?_
  | with_reducible refine ev_tup ?_
  | with_reducible refine ea_nil ?_
  | with_reducible refine ea_cons ?_
  | with_reducible refine ev_cb ?_
  | with_reducible refine et_test ?_
  | with_reducible refine et_B ?_
  | with_reducible refine et_and ?_
  | with_reducible refine et_or ?_
  | with_reducible refine et_not ?_
  | with_reducible refine et_yes ?_
  | with_reducible refine eo_none ?_
  | with_reducible refine eo_some ?_
  | with_reducible refine ev_slS ?_
  | with_reducible refine od_int ?_
  | with_reducible refine od_bl ?_
  | with_reducible refine od_eq_int ?_
  | with_reducible refine od_ne_int ?_
  | with_reducible refine od_eq_bl ?_
  | with_reducible refine od_ne_bl ?_
  | with_reducible refine od_eq_str ?_
  | with_reducible refine od_ne_str ?_
  | with_reducible refine od_leS ?_
  | with_reducible refine ud_isN ?_
  | with_reducible refine ud_notN ?_
  | with_reducible refine do_seq ?_
  | with_reducible refine do_set ?_
  | with_reducible refine do_ret ?_
  | with_reducible refine do_retN ?_
  | with_reducible refine do_if ?_
  | with_reducible refine do_next ?_
  | with_reducible refine tg_name ?_
  | with_reducible refine tgs_nil ?_
  | with_reducible refine tgs_cons ?_)
theorem sub_ty {K : PySem.W.Frag} {C : Addr} {n : String} (h : n ∈ tyNames) : PySem.W.subIn K (.type n) (.ref C) = some false := by
  have key : ∀ (n : String) (l : List Value), fastBuiltinMro n = some l → (l.all fun v => match v with | .type _ => true | _ => false) = true → PySem.W.subIn K (.type n) (.ref C) = some false := fun n l e hl => by
    show (fastBuiltinMro n).map (·.contains (.ref C)) = some false
    rw [e]
    show some (l.contains (Value.ref C)) = some false
    congr 1
    rw [List.contains_eq_any_beq, List.any_eq_false]
    intro v hv
    have := List.all_eq_true.mp hl v hv
    cases v <;> simp_all
  simp only [tyNames, List.mem_cons, List.not_mem_nil, or_false] at h
  rcases h with rfl | rfl | rfl | rfl | rfl | rfl | rfl
  · exact key _ [.type "NoneType", .type "object"] (by decide +kernel) (by decide)
  · exact key _ [.type "bool", .type "int", .type "object"] (by decide +kernel) (by decide)
  · exact key _ [.type "int", .type "object"] (by decide +kernel) (by decide)
  · exact key _ [.type "str", .type "object"] (by decide +kernel) (by decide)
  · exact key _ [.type "list", .type "object"] (by decide +kernel) (by decide)
  · exact key _ [.type "tuple", .type "object"] (by decide +kernel) (by decide)
  · exact key _ [.type "dict", .type "object"] (by decide +kernel) (by decide)
theorem kit_ty {K : PySem.W.Frag} {C : Addr} {n : String} (hc : PySem.W.isClsIn K C = true) (ht : PySem.W.typeIn K (.ref C) = some (.type "type")) (h : n ∈ tyNames) : PySem.W.kitOne K (.type n) (.ref C) = some false := by
  unfold PySem.W.kitOne
  rw [if_neg (by simp)]
  show (if ((PySem.W.clsIn K C).isSome && PySem.W.typeIn K (.ref C) == some (.type "type")) = true then PySem.W.subIn K (.type n) (.ref C) else none) = some false
  have hc' : (PySem.W.clsIn K C).isSome = true := hc
  rw [if_pos (by rw [hc', ht]; simp), sub_ty h]
theorem raw0 {P : Program} {w : World} {K : PySem.W.Frag} {mg : Str → Option Value} {base : Heap} {CX : CXT} {k : Nat} {f : Addr} {sp : Sp} {fd : FuncData} {ps : List Str} (F : FnOk P w K mg base CX k f fd ps sp) (hb : Binds K fd ps []) : FnR P w K mg base CX k f sp :=
  (F.raw hb .nil).imp fun vs H Q E h => by rw [List.append_nil]; exact h
def gx (f n : Str) (x : D) : List (Str × D) := [(f, x), (("code" : Str), .str n)]
/-- raise C(x) -/
theorem do_raise1 {F : Fm} {δ : List SD} {ta : TA} {C : Addr} {R : PD} {PX : Addr → List (Str × D) → Prop} {f n : Str} (ok : RaiseOk F PX) (h : EvA F ta δ fun ds => ∃ x, ds = [x] ∧ plD x = true ∧ dep x ≤ 4 ∧ PX C (gx f n x)) :
    Do F (fun _ σ H => tMkX C 1 0 (spY F.K C (preCp 4) (postX1 n f)) gx1 ta tNil σ H fun cls d H' => F.E cls d H') δ R :=
  do_raiseX (n := 1) (m := 0) (gV := gx1) (gD := fun ds _ => ds) (fun H x vs zs ds es r rz h1 h2 => by
    match ds, es, h1, h2, r, rz with
    | [d], [], _, _, .cons r0 .nil, .nil => exact ⟨_, rfl, .cons r0 .nil⟩) ok (h.imp fun ds ⟨x, e, p, d, px⟩ => ea_nil ⟨by rw [e]; rfl, rfl, by decide, ⟨x, e, p, d⟩, fun gs ⟨d', e1, e2⟩ => by
      subst e
      cases e1
      rw [e2]
      exact px⟩)
/-! ### standings on data -/
theorem pydL_intsS (ps : List Int) : pydL (ps.map D.int) = ps.map PyData.int := by
  rw [pydL_map, List.map_map]
  refine List.map_congr_left fun x _ => ?_
  simp [pyd]
theorem ints_eqvS : ∀ xs ys : List Int, PyData.eqvAll (xs.map PyData.int) (ys.map PyData.int) = decide (xs = ys)
  | [], [] => by simp [PyData.eqvAll]
  | [], y :: ys => by simp [PyData.eqvAll]
  | x :: xs, [] => by simp [PyData.eqvAll]
  | x :: xs, y :: ys => by
    rw [List.map_cons, List.map_cons, PySem.W.eqv_all_cons, ints_eqvS xs ys]
    simp only [PyData.eqv, Bool.beq_eq_decide_eq, List.cons.injEq, Bool.decide_and]
theorem plainL_intsS (ps : List Int) : plainL (ps.map D.int) = true := by
  induction ps with
  | nil => simp [plainL]
  | cons p ps ih => simp [plainL, plainD, ih]
theorem shaped_ints (ps : List Int) : SeqAt.shaped (pyd (.lst (ps.map D.int))) = true := by
  have h : PyData.canLayAll0 (ps.map PyData.int) = true := by
    induction ps with
    | nil => simp [PyData.canLayAll0]
    | cons p ps ih => simp [PyData.canLayAll0, PyData.canLay0, ih]
  unfold SeqAt.shaped
  simp only [pyd, pydL_intsS, PyData.canLay0, PyData.depth, h, PySem.W.depth_ints, Bool.true_and, decide_eq_true_eq]
  omega
theorem shaped_intsT (ps : List Int) : SeqAt.shaped (pyd (.tup (ps.map D.int))) = true := by
  have h : PyData.canLayAll0 (ps.map PyData.int) = true := by
    induction ps with
    | nil => simp [PyData.canLayAll0]
    | cons p ps ih => simp [PyData.canLayAll0, PyData.canLay0, ih]
  unfold SeqAt.shaped
  simp only [pyd, pydL_intsS, PyData.canLay0, PyData.depth, h, PySem.W.depth_ints, Bool.true_and, decide_eq_true_eq]
  omega
structure Live (P : Nat) (l : List Int) : Prop where
  pw : l.Pairwise (· < ·)
  bd : ∀ p ∈ l, 0 ≤ p ∧ p < (P : Int)
theorem pw_len {P : Int} : ∀ {l : List Int} {lo : Int}, l.Pairwise (· < ·) → (∀ p ∈ l, lo ≤ p ∧ p < P) → lo ≤ P → (l.length : Int) ≤ P - lo
  | [], lo, _, _, h => by simp; omega
  | p :: l, lo, hp, hb, h => by
    obtain ⟨h1, h2⟩ := List.pairwise_cons.mp hp
    have hb' := hb p (by simp)
    have := pw_len (P := P) (l := l) (lo := p + 1) h2 (fun q hq => ⟨by have := h1 q hq; omega, (hb q (List.mem_cons_of_mem _ hq)).2⟩) (by omega)
    rw [List.length_cons]
    omega
theorem Live.len {P : Nat} {l : List Int} (h : Live P l) : l.length ≤ P := by
  have := pw_len h.pw h.bd (by omega)
  omega
def stgD (a : Int) (l : List Int) : D := .tup [.int a, .tup (l.map .int)]
/-! ### any value as a standing -/
theorem isNum_int {z : D} {lo hi : Int} (h : isNum z lo hi = true) : ∃ i, z = .int i ∧ lo ≤ i ∧ i ≤ hi := by
  cases z with
  | int i =>
    simp only [isNum, Bool.and_eq_true, decide_eq_true_eq] at h
    exact ⟨i, rfl, h.1, h.2⟩
  | _ => cases h
theorem pl_memS : ∀ {zs : List D} {z : D}, plL zs = true → z ∈ zs → plD z = true
  | y :: zs, z, h, hm => by
    have h : (plD y && plL zs) = true := h
    rw [Bool.and_eq_true] at h
    rcases List.mem_cons.mp hm with rfl | hm
    · exact h.1
    · exact pl_memS h.2 hm
def dInt : D → Int
  | .int i => i | _ => 0
def ascD (zs : List D) : Bool := decide ((zs.map dInt).Pairwise (· < ·))
def liveD (v : D) (P : Int) : Bool := match v with
  | .tup zs => zs.all (fun z => isNum z 0 (P - 1)) && ascD zs
  | _ => false
def lenT : D → Nat
  | .tup zs => zs.length | _ => 0
theorem ints_of {zs : List D} {P : Int} (h : zs.all (fun z => isNum z 0 (P - 1)) = true) : zs = (zs.map dInt).map .int ∧ ∀ i ∈ zs.map dInt, 0 ≤ i ∧ i < P := by
  induction zs with
  | nil => exact ⟨rfl, fun i hi => nomatch hi⟩
  | cons z zs ih =>
    simp only [List.all_cons, Bool.and_eq_true] at h
    obtain ⟨i, rfl, h1, h2⟩ := isNum_int h.1
    obtain ⟨e, h3⟩ := ih h.2
    refine ⟨by rw [List.map_cons, List.map_cons, ← e]; rfl, fun j hj => ?_⟩
    rcases List.mem_cons.mp hj with e' | hj
    · have e' : j = i := e'
      omega
    · exact h3 j hj
def preLiveG : List D → Prop := fun ds => ∃ (z : D) (P : Int), ds = [z, .int P] ∧ plD z = true ∧ lenT z < 63
def postLiveG : List D → D → Prop := fun ds d => ∃ (z : D) (P : Int), ds = [z, .int P] ∧ d = .bl (liveD z P)
theorem ok__are_live {P : Program} {w : World} {K : PySem.W.Frag} {mg : Str → Option Value} {base : Heap} (T : Txt K mg) : FnOk P w K mg base CX0 4 T.f__are_live T.fd__are_live ["value", "parts"] (spD K preLiveG postLiveG) := by
  refine T.F__are_live.ok sc__are_live (spD_len fun ds ⟨l, P, e, _⟩ => by rw [e]; rfl) (fun cdv A outer s H vs Q E hr h => ?_)
  refine ⟨_, (pss_one (ps_ret (pe_and (pe_callB (callIsi K) (by rfl) T.b_isinstance (by decide +kernel) (pa_cons (pv 0) (pa_cons (pe_bltn (v := .ty "tuple") (by rfl) T.b_tuple (by decide +kernel) rfl) pa_nil))) (pe_and (pe_callB (callAll K) (by rfl) T.b_all (by decide +kernel) (pa_cons (pe_lc (own := [("part", 2)]) rfl sc__are_live.nd (piT K (pv 0)) (blkOk_by (N := N__are_live) (sc := defScope s__are_live) (by decide +kernel)) (fun _ _ _ _ _ => (pg_name (i := 2) sc__are_live.nd rfl (Or.inl rfl))) (fun _ _ _ _ _ => pts_nil) (fun _ _ _ _ _ => (pe_call (ok_is_number T) (hr.mono (by decide)) rfl T.g_is_number T.k_is_number T.bd_is_number .nil pass0 (pa_cons (pv 2) (pa_cons pe_int (pa_cons (pe_op op_sub (pv 1) pe_int) pa_nil)))))) pa_nil)) (pe_one (pe_cmpR (opEqD K hr.units) (pe_callTy (callList K) (by rfl) T.b_list (by decide +kernel) (pa_cons (pv 0) pa_nil)) (pe_callB (callSortSet w) (by rfl) T.b_sorted (by decide +kernel) (pa_cons (pe_callTy (callSetI K w) (by rfl) T.b_set (by decide +kernel) (pa_cons (pv 0) pa_nil)) pa_nil)) (nomark _))))))), ?_⟩
  refine enterD h fun M ds pre _ => ?_
  obtain ⟨x, P, rfl, px, l63⟩ := pre
  obtain ⟨ty, hty⟩ : ∃ a, tyName x = some a := by cases x <;> first | exact ⟨_, rfl⟩ | cases px
  refine do_ret (ev_and (ev_cb (ea_cons (ev_var rfl (ea_cons (ev_ty (ea_nil (cd_isi hty (by decide) ⟨_, rfl, fun hb => ?_, fun hb => ⟨x, P, rfl, ?_⟩⟩))))))))
  rotate_left
  · cases x with
    | tup zs =>
      have ht : isD (.tup zs) "tuple" = true := by rfl
      rw [ht] at hb
      cases hb
    | _ => rfl
  obtain ⟨zs, rfl⟩ : ∃ zs, x = .tup zs := by
    cases x with
    | tup zs => exact ⟨zs, rfl⟩
    | _ => cases hb
  have px' : zs.length ≤ 10000 ∧ plL zs = true := by
    simp only [plD, Bool.and_eq_true, decide_eq_true_eq] at px
    exact px
  refine ev_and (ev_cb (ea_cons (EvN.ev ?_)))
  refine en_lc (js := [2]) (PX := fun x => x = zs) (it_tup (ev_var rfl ⟨_, rfl, rfl⟩)) (fun l e => by rw [e]; omega) (by decide) (fun l i acc => acc = blD ((zs.take i).map fun z => isNum z 0 (P - 1))) (fun l e => rfl) ?_ ?_
  · rintro x i z acc rfl hi rfl
    refine tg_name (et_yes ⟨fun _ => ?_, fun h => nomatch h⟩)
    refine ev_num (ea_cons (ev_var rfl (ea_cons (ev_int (ea_cons (ev_op (ev_var (d := .int P) rfl (ev_int (od_int (ea_nil ⟨_, _, _, rfl, pl_memS px'.2 (List.mem_of_getElem? hi), ?_⟩))))))))))
    rw [List.take_succ, hi]
    simp [blD]
  · rintro x ds rfl rfl
    rw [List.take_length]
    refine ea_nil (cd_all ⟨_, rfl, fun ha => ?_, fun ha => ⟨.tup x, P, rfl, ?_⟩⟩)
    rotate_left
    · have : x.all (fun z => isNum z 0 (P - 1)) = false := by
        rw [← ha, List.all_map]
        rfl
      simp only [liveD, this, Bool.false_and]
    have ha : x.all (fun z => isNum z 0 (P - 1)) = true := by
      rw [← ha, List.all_map]
      rfl
    obtain ⟨e, hb⟩ := ints_of ha
    have lv : liveD (.tup x) P = ascD x := by simp only [liveD, ha, Bool.true_and]
    have ex : x = (x.map dInt).map .int := e
    have l63' : (x.map dInt).length < 63 := by rw [List.length_map]; exact l63
    generalize hl : x.map dInt = l at ex l63' hb
    refine ev_op (EvN.ev (en_listOf (ev_var (d := .tup x) rfl ⟨_, .inr rfl, ?_⟩)))
    refine EvN.ev (PfJ.en_sortSetG (ev_var (d := .tup x) rfl ⟨l, by rw [ex], l63', fun ms pm hm => ?_⟩))
    rw [ex]
    refine od_eqD (by simp only [plainD]; exact plainL_intsS l) (by simp only [plainD]; exact plainL_intsS ms) (shaped_ints l) (shaped_ints ms) ⟨.tup x, P, by rw [← ex], ?_⟩
    rw [lv]
    have : PyData.eqv (pyd (.lst (l.map D.int))) (pyd (.lst (ms.map D.int))) = decide (l = ms) := by
      simp [pyd, pydL_intsS, PyData.eqv, ints_eqvS]
    rw [this]
    unfold ascD
    rw [hl]
    congr 1
    refine decide_eq_decide.mpr ⟨fun e => e ▸ pm, fun pw => asc_uniq pw pm fun k => (hm k).symm⟩
/-- whether the value is a standing of the reader -/
def isStg (r : RdT) (v : D) : Bool := match v with
  | .tup [a, l] => isNum a 0 ((r.ss.length : Int) - 1) && liveD l (partsOf r.ss)
  | _ => false
def okZ (v : D) : Prop := plD v = true ∧ dep v ≤ 4 ∧ ∀ a l, v = .tup [a, l] → lenT l < 63
theorem two_inj {c : Addr} {r r' : RdT} {v v' : D} (h : [D.ins c (rdF r), v] = [.ins c (rdF r'), v']) : r = r' ∧ v = v' := by
  obtain ⟨e1, e2⟩ := List.cons.inj h
  exact ⟨rdF_inj e1, (List.cons.inj e2).1⟩
def preStgG (c : Addr) : List D → Prop := fun ds => ∃ (r : RdT) (v : D), ds = [.ins c (rdF r), v] ∧ GoodRd r ∧ okZ v
def postStgG (c : Addr) : List D → D → Prop := fun ds d => ∃ (r : RdT) (v : D), ds = [.ins c (rdF r), v] ∧ d = .bl (isStg r v)
theorem ok_is_standing {P : Program} {w : World} {K : PySem.W.Frag} {mg : Str → Option Value} {base : Heap} (T : Txt K mg) : FnOk P w K mg base CX0 7 T.f_is_standing T.fd_is_standing ["reader", "value"] (spD K (preStgG T.c_Reader) (postStgG T.c_Reader)) := by
  refine T.F_is_standing.ok sc_is_standing (spD_len fun ds ⟨r, a, e, _⟩ => by rw [e]; rfl) (fun cdv A outer s H vs Q E hr h => ?_)
  refine ⟨_, (pss_one (ps_ret (pe_and (pe_callB (callIsi K) (by rfl) T.b_isinstance (by decide +kernel) (pa_cons (pv 1) (pa_cons (pe_bltn (v := .ty "tuple") (by rfl) T.b_tuple (by decide +kernel) rfl) pa_nil))) (pe_and (pe_cmpR op_eq (pe_callB (callLen K) (by rfl) T.b_len (by decide +kernel) (pa_cons (pv 1) pa_nil)) pe_int (nomark _)) (pe_and (pe_call (ok_is_number T) (hr.mono (by decide)) rfl T.g_is_number T.k_is_number T.bd_is_number .nil pass0 (pa_cons (pe_ix (ixT K) (pv 1) pe_int (fun _ _ => rfl)) (pa_cons pe_int (pa_cons (pe_op op_sub (pe_callB (call_lenOwn T.dn_Reader_len T.fn_Reader_len (raw0 (ok_Reader_len T) T.bd_Reader_len) (hr.mono (by decide)) pass0) (by rfl) T.b_len (by decide +kernel) (pa_cons (pv 0) pa_nil)) pe_int) pa_nil)))) (pe_one (pe_call (ok__are_live T) (hr.mono (by decide)) rfl T.g__are_live T.k__are_live T.bd__are_live .nil pass0 (pa_cons (pe_ix (ixT K) (pv 1) pe_int (fun _ _ => rfl)) (pa_cons (pe_prop (pv 0) T.cf_Reader.cl T.pr_Reader_parts (ok_Reader_parts T) (hr.mono (by decide)) T.bd_Reader_parts .nil pass0 rfl) pa_nil))))))))), ?_⟩
  refine enterD h fun M ds pre _ => ?_
  obtain ⟨r, x, rfl, g, px, dx, lx⟩ := pre
  have n6 := g.ss.n6
  obtain ⟨ty, hty⟩ : ∃ a, tyName x = some a := by cases x <;> first | exact ⟨_, rfl⟩ | cases px
  refine do_ret (ev_and (ev_cb (ea_cons (ev_var rfl (ea_cons (ev_ty (ea_nil (cd_isi hty (by decide) ⟨_, rfl, fun hb => ?_, fun hb => ⟨r, x, rfl, ?_⟩⟩))))))))
  rotate_left
  · cases x with
    | tup zs =>
      have ht : isD (.tup zs) "tuple" = true := by rfl
      rw [ht] at hb
      cases hb
    | _ => rfl
  obtain ⟨zs, rfl⟩ : ∃ zs, x = .tup zs := by
    cases x with
    | tup zs => exact ⟨zs, rfl⟩
    | _ => cases hb
  have px' : zs.length ≤ 10000 ∧ plL zs = true := by
    simp only [plD, Bool.and_eq_true, decide_eq_true_eq] at px
    exact px
  refine ev_and (ev_op (ev_cb (ea_cons (ev_var rfl (ea_nil (cd_lenK (k := zs.length) rfl (by omega) (ev_int (od_eq_int ⟨_, rfl, fun h2 => ?_, fun h2 => ⟨r, .tup zs, rfl, ?_⟩⟩))))))))
  rotate_left
  · have h2 := of_decide_eq_false h2
    rcases zs with _ | ⟨a, _ | ⟨b, _ | ⟨c, zs⟩⟩⟩
    · rfl
    · rfl
    · exact absurd rfl h2
    · rfl
  have h2 := of_decide_eq_true h2
  obtain ⟨a, l, rfl⟩ : ∃ a l, zs = [a, l] := by
    rcases zs with _ | ⟨a, _ | ⟨b, _ | ⟨c, zs⟩⟩⟩
    · simp at h2
    · simp at h2
    · exact ⟨_, _, rfl⟩
    · simp at h2; omega
  refine ev_and (ev_num (ea_cons (ev_op (ev_var (d := .tup [a, l]) rfl (ev_int (od_ixT (d := a) rfl ?_))))))
  refine ea_cons (ev_int (ea_cons (ev_op (ev_cb (ea_cons (ev_var rfl (ea_nil (cd_lenOwn ⟨r, rfl, g⟩ fun d hd => ?_))))))))
  obtain rfl := postR_of hd
  refine ⟨_, rfl, by omega, by omega, ev_int (od_int (ea_nil ⟨_, _, _, rfl, pl_memS px'.2 (by simp), _, rfl, fun h3 => ?_, fun h3 => ⟨r, .tup [a, l], rfl, by simp only [isStg, h3, Bool.false_and]⟩⟩))⟩
  refine ev_call (ea_cons (ev_op (ev_var (d := .tup [a, l]) rfl (ev_int (od_ixT (d := l) rfl ?_)))))
  refine ea_cons (ev_prop (ev_var rfl ⟨_, rfl, ⟨r, rfl, g⟩, fun d hd => ?_⟩))
  obtain rfl := postR_of hd
  refine ea_nil ⟨⟨l, _, rfl, pl_memS px'.2 (by simp), lx a l rfl⟩, fun d ⟨z', P', e, hd⟩ => ?_⟩
  cases e
  exact ⟨r, .tup [a, l], rfl, by rw [hd]; simp only [isStg, h3, Bool.true_and]⟩
def postChk (c : Addr) : List D → D → Prop := fun ds _ => ∃ (r : RdT) (v : D), ds = [.ins c (rdF r), v] ∧ isStg r v = true
def pxChk (c cx : Addr) : List D → Addr → List (Str × D) → Prop := fun ds C gs => ∃ (r : RdT) (v : D), ds = [.ins c (rdF r), v] ∧ isStg r v = false ∧ C = cx ∧ gs = gx "given" "InvalidStanding" v
theorem ok__check_standing {P : Program} {w : World} {K : PySem.W.Frag} {mg : Str → Option Value} {base : Heap} (T : Txt K mg) : FnOk P w K mg base (L2.CX P w) 14 T.f__check_standing T.fd__check_standing ["reader", "value"] (spR K (preStgG T.c_Reader) (postChk T.c_Reader) (pxChk T.c_Reader T.c_InvalidStanding)) := by
  refine T.F__check_standing.okX sc__check_standing (fun vs H Q E s => spR_len (fun ds ⟨r, v, e, _⟩ => by rw [e]; rfl) s) (fun cdv A outer s H vs Q E hr h => ?_)
  refine ⟨_, (pss_one (ps_if (pt_not (pt_val (pe_call (ok_is_standing T) (hr.mono (by decide)) rfl T.g_is_standing T.k_is_standing T.bd_is_standing .nil pass0 (pa_cons (pv 0) (pa_cons (pv 1) pa_nil))))) (pss_one (ps_raise rfl (takes_of rfl rfl rfl rfl) (pmk_x T.xa_InvalidStanding.x T.xa_InvalidStanding.iC T.xa_InvalidStanding.tI (ok_InvalidStanding_init T) (hr.mono (by decide)) rfl T.g_InvalidStanding (kxp_InvalidStanding T) pass0 (pa_cons (pv 1) pa_nil) pk_nil))) pss_nil)), ?_⟩
  refine enterR h fun M ds pre _ ok => ?_
  obtain ⟨r, v, rfl, g, ov⟩ := pre
  refine do_if (et_not (et_test (ev_call (ea_cons (ev_var rfl (ea_cons (ev_var rfl (ea_nil ⟨⟨r, v, rfl, g, ov⟩, fun d ⟨r', v', e, hd⟩ => ⟨_, hd, ?_⟩⟩))))))))
  obtain ⟨rfl, rfl⟩ := two_inj e
  exact ⟨fun hb => do_raise1 (f := "given") (n := "InvalidStanding") ok (ea_cons (ev_var (d := v) rfl (ea_nil ⟨v, rfl, ov.1, ov.2.1, r, v, rfl, by simpa using hb, rfl, rfl⟩))), fun hb => do_next ⟨r, v, rfl, by simpa using hb⟩⟩
/-- a standing, as data -/
theorem stg_of {r : RdT} {v : D} (h : isStg r v = true) : ∃ (a : Nat) (l : List Int), v = stgD (a : Int) l ∧ a < r.ss.length ∧ Live (partsOf r.ss) l := by
  unfold isStg at h
  split at h
  · rename_i v' a l
    rw [Bool.and_eq_true] at h
    obtain ⟨i, rfl, h1, h2⟩ := isNum_int h.1
    have h3 := h.2
    unfold liveD at h3
    split at h3
    · rename_i l' zs
      rw [Bool.and_eq_true] at h3
      obtain ⟨e, hb⟩ := ints_of h3.1
      have ei : ((i.toNat : Nat) : Int) = i := by omega
      refine ⟨i.toNat, zs.map dInt, ?_, by omega, of_decide_eq_true h3.2, fun p hp => hb p hp⟩
      unfold stgD
      rw [ei, ← e]
    · cases h3
  · cases h
theorem stg_yes {r : RdT} {a : Nat} {l : List Int} (ha : a < r.ss.length) (hl : Live (partsOf r.ss) l) : isStg r (stgD (a : Int) l) = true := by
  have e1 : (l.map D.int).all (fun z => isNum z 0 ((partsOf r.ss : Int) - 1)) = true := by
    rw [List.all_eq_true]
    intro z hz
    obtain ⟨i, hi, rfl⟩ := List.mem_map.mp hz
    have := hl.bd i hi
    simp only [isNum, Bool.and_eq_true, decide_eq_true_eq]
    omega
  have e2 : (l.map D.int).map dInt = l := by
    rw [List.map_map]
    exact (List.map_congr_left fun x _ => rfl).trans (List.map_id l)
  have e3 : ascD (l.map D.int) = true := by
    unfold ascD
    rw [e2]
    exact decide_eq_true hl.pw
  have e4 : isNum (.int (a : Int)) 0 ((r.ss.length : Int) - 1) = true := by
    simp only [isNum, Bool.and_eq_true, decide_eq_true_eq]
    omega
  show (isNum (.int (a : Int)) 0 ((r.ss.length : Int) - 1) && ((l.map D.int).all (fun z => isNum z 0 ((partsOf r.ss : Int) - 1)) && ascD (l.map D.int))) = true
  rw [e1, e3, e4]
  rfl

end Pf

set_option maxHeartbeats 16000000
namespace Pf
open PySem L2 PfL RZ
local macro_rules | `(tactic| walk_at "ev") => `(tactic| first
  | ((with_reducible refine' ev_var ?h ?_); (case h => rfl))
  | with_reducible refine ev_int ?_
  | with_reducible refine ev_bl ?_
  | with_reducible refine ev_str ?_
  | with_reducible refine ev_non ?_
  | with_reducible refine ev_ty ?_
  | with_reducible refine ev_op ?_
  | with_reducible refine ev_un ?_
  | with_reducible refine ev_chain ?_
  | with_reducible refine ev_if ?_
  | with_reducible refine ev_and ?_
  | with_reducible refine ev_or ?_
  | with_reducible refine ev_not ?_
  | with_reducible refine ev_lst ?_
  | with_reducible refine ev_tup ?_
  | with_reducible refine ea_nil ?_
  | with_reducible refine ea_cons ?_
  | with_reducible refine ev_cb ?_
  | with_reducible refine et_test ?_
  | with_reducible refine et_B ?_
  | with_reducible refine et_and ?_
  | with_reducible refine et_or ?_
  | with_reducible refine et_not ?_
  | with_reducible refine et_yes ?_
  | with_reducible refine eo_none ?_
  | with_reducible refine eo_some ?_
  | with_reducible refine ev_slS ?_
  | with_reducible refine od_int ?_
  | with_reducible refine od_bl ?_
  | with_reducible refine od_eq_int ?_
  | with_reducible refine od_ne_int ?_
  | with_reducible refine od_eq_bl ?_
  | with_reducible refine od_ne_bl ?_
  | with_reducible refine od_eq_str ?_
  | with_reducible refine od_ne_str ?_
  | with_reducible refine od_leS ?_
  | with_reducible refine ud_isN ?_
  | with_reducible refine ud_notN ?_
  | with_reducible refine do_seq ?_
  | with_reducible refine do_set ?_
  | with_reducible refine do_ret ?_
  | with_reducible refine do_retN ?_
  | with_reducible refine do_if ?_
  | with_reducible refine do_next ?_
  | with_reducible refine tg_name ?_
  | with_reducible refine tgs_nil ?_
  | with_reducible refine tgs_cons ?_)
/-! ### steps -/
theorem ask_atL {as : List Int} {l : List Int} {i : Nat} {p : Int} (hl : ∀ p ∈ l, 0 ≤ p ∧ p < (as.length : Int)) (h : l[i]? = some p) : atI (as.map D.int) p = some (.int (as.getD p.toNat 0)) := by
  obtain ⟨a0, a1⟩ := hl p (List.mem_of_getElem? h)
  obtain ⟨k, rfl⟩ : ∃ k : Nat, p = (k : Int) := ⟨p.toNat, by omega⟩
  refine atI_nat ?_
  have hk : k < as.length := by omega
  rw [List.getElem?_map, List.getElem?_eq_getElem hk]
  simp [List.getD_eq_getElem?_getD, List.getElem?_eq_getElem hk]
def askSum (as l : List Int) : Int := (l.map fun p => as.getD p.toNat 0).sum
def preAsked : List D → Prop := fun ds => ∃ as l : List Int, ds = [.tup (as.map .int), .tup (l.map .int)] ∧ (∀ p ∈ l, 0 ≤ p ∧ p < (as.length : Int)) ∧ l.length ≤ 4
def postAsked : List D → D → Prop := fun ds d => ∃ as l : List Int, ds = [.tup (as.map .int), .tup (l.map .int)] ∧ d = .int (askSum as l)
theorem ok__asked {P : Program} {w : World} {K : PySem.W.Frag} {mg : Str → Option Value} {base : Heap} (T : Txt K mg) : FnOk P w K mg base CX0 4 T.f__asked T.fd__asked ["asks", "parts"] (spD K preAsked postAsked) := by
  refine T.F__asked.ok sc__asked (spD_len fun ds ⟨r, a, e, _⟩ => by rw [e]; rfl) (fun cdv A outer s H vs Q E hr h => ?_)
  refine ⟨_, (pss_one (ps_ret (pe_callB (callSum K) (by rfl) T.b_sum (by decide +kernel) (pa_cons (pe_lc (own := [("part", 2)]) rfl sc__asked.nd (piT K (pv 1)) (blkOk_by (N := N__asked) (sc := defScope s__asked) (by decide +kernel)) (fun _ _ _ _ _ => (pg_name (i := 2) sc__asked.nd rfl (Or.inl rfl))) (fun _ _ _ _ _ => pts_nil) (fun _ _ _ _ _ => (pe_ix (ixT K) (pv 0) (pv 2) (fun _ _ => rfl)))) pa_nil)))), ?_⟩
  refine enterD h fun M ds pre _ => ?_
  obtain ⟨as, l, rfl, hl, h4⟩ := pre
  refine do_ret (ev_cb (ea_cons (EvN.ev ?_)))
  refine en_lc (js := [2]) (PX := fun x => x = l.map .int) (it_tup (ev_var rfl ⟨_, rfl, rfl⟩)) (fun x e => by rw [e, List.length_map]; omega) (by decide) (fun _ i acc => acc = ((l.take i).map fun p => as.getD p.toNat 0).map D.int) (fun _ _ => rfl) ?_ ?_
  · rintro x i d acc rfl hi rfl
    obtain ⟨p, hp, rfl⟩ := getInt hi
    refine tg_name (et_yes ⟨fun _ => ?_, fun h => nomatch h⟩)
    refine ev_op (ev_var (d := .tup (as.map .int)) rfl (ev_var rfl (od_ixT (ask_atL hl hp) ?_)))
    rw [List.take_succ, hp]
    simp
  · rintro x ds rfl rfl
    rw [List.length_map, List.take_length]
    exact ea_nil (cd_sum ⟨as, l, rfl, rfl⟩)
/-! the parts of a list, in the order in which they are made -/
def tupI (l : List Int) : D := .tup (l.map .int)
def subs (l : List Int) : List (List Int) := l.foldl (fun found p => found ++ found.map (· ++ [p])) [[]]
theorem subs_snoc {l : List Int} {i : Nat} {p : Int} (h : l[i]? = some p) : subs (l.take (i + 1)) = subs (l.take i) ++ (subs (l.take i)).map (· ++ [p]) := by
  rw [List.take_succ, h]
  unfold subs
  rw [List.foldl_append]
  rfl
theorem subs_len : ∀ (l : List Int), (subs l).length = 2 ^ l.length := by
  have : ∀ (l : List Int) (f : List (List Int)), (l.foldl (fun found p => found ++ found.map (· ++ [p])) f).length = f.length * 2 ^ l.length := fun l => by
    induction l with
    | nil => intro f; simp
    | cons p l ih =>
      intro f
      rw [List.foldl_cons, ih, List.length_append, List.length_map, List.length_cons, Nat.pow_succ]
      rw [show f.length + f.length = f.length * 2 by omega, Nat.mul_assoc, Nat.mul_comm 2]
  intro l
  rw [subs, this]
  simp
theorem subs_le {l : List Int} (h : l.length ≤ 4) : (subs l).length ≤ 16 := by
  rw [subs_len]
  exact Nat.pow_le_pow_right (by decide) h
def preSubs : List D → Prop := fun ds => ∃ l : List Int, ds = [tupI l] ∧ l.length ≤ 4
def postSubs : List D → D → Prop := fun ds d => ∃ l : List Int, ds = [tupI l] ∧ d = .lst ((subs l).map tupI)
theorem ok__subsets {P : Program} {w : World} {K : PySem.W.Frag} {mg : Str → Option Value} {base : Heap} (T : Txt K mg) : FnOk P w K mg base CX0 2 T.f__subsets T.fd__subsets ["parts"] (spD K preSubs postSubs) := by
  refine T.F__subsets.ok sc__subsets (spD_len fun ds ⟨l, e, _⟩ => by rw [e]; rfl) (fun cdv A outer s H vs Q E hr h => ?_)
  refine ⟨_, (pss_cons (ps_set (i := 1) sc__subsets.nd rfl (Or.inl rfl) (pe_lst (pa_cons (pe_tup pa_nil) pa_nil)))
    (pss_cons (ps_for PassesOwn.never rfl (piT K (pv 0)) (pg_name (i := 2) sc__subsets.nd rfl (Or.inr rfl))
      (pss_one (ps_set (i := 1) sc__subsets.nd rfl (Or.inl rfl) (pe_op op_cat (pv 1) (pe_lc (own := [("some", 3)]) rfl sc__subsets.nd (piL K (pv 1)) (blkOk_by (N := N__subsets) (sc := defScope s__subsets) (by decide +kernel)) (fun _ _ _ _ _ => (pg_name (i := 3) sc__subsets.nd rfl (Or.inl rfl))) (fun _ _ _ _ _ => pts_nil) (fun _ _ _ _ _ => (pe_op (PfJ.opCatA K) (pv 3) (pe_tup (pa_cons (pv 2) pa_nil)))))))))
    (pss_one (ps_ret (pv 1))))), ?_⟩
  refine enterD h fun M ds pre _ => ?_
  obtain ⟨l, rfl, h4⟩ := pre
  refine do_seq (do_set (EvN.ev (en_lst (ea_cons (ev_tup (ea_nil ⟨by simp, ea_nil ⟨by simp, ?_⟩⟩))))))
  refine do_seq ?_
  refine do_for (js := [2]) (PX := fun x => x = l.map .int) (it_tup (ev_var (d := tupI l) rfl ⟨_, rfl, rfl⟩)) (fun _ i δ => ∃ y z, δ = [.dat (tupI l), .dat (.lst ((subs (l.take i)).map tupI)), y, z]) (fun _ _ => ⟨_, _, rfl⟩) ?_ ?_
  · rintro x i d δ rfl hi ⟨y, z, rfl⟩
    obtain ⟨p, hp, rfl⟩ := getInt hi
    have hil := (List.getElem?_eq_some_iff.mp hp).1
    have hsl : (subs (l.take i)).length ≤ 16 := subs_le (by rw [List.length_take]; omega)
    refine tg_name (do_set (ev_op (ev_var (d := .lst ((subs (l.take i)).map tupI)) rfl (EvN.ev ?_))))
    refine en_lc (js := [3]) (PX := fun x => x = (subs (l.take i)).map tupI) (it_list (ev_var (d := .lst ((subs (l.take i)).map tupI)) rfl ⟨_, rfl, rfl⟩)) (fun x e => by rw [e, List.length_map]; omega) (by decide) (fun _ j acc => acc = (((subs (l.take i)).take j).map (· ++ [p])).map tupI) (fun _ _ => rfl) ?_ ?_
    · rintro x j d acc rfl hj rfl
      rw [List.getElem?_map] at hj
      obtain ⟨q, hq, rfl⟩ := Option.map_eq_some_iff.mp hj
      have hql : q.length ≤ 1000 := by
        have : ∀ (l : List Int) (f : List (List Int)) (n : Nat), (∀ q ∈ f, q.length ≤ n) → ∀ q ∈ l.foldl (fun found p => found ++ found.map (· ++ [p])) f, q.length ≤ n + l.length := fun l => by
          induction l with
          | nil => intro f n h q hq; exact h q hq
          | cons p l ih =>
            intro f n h q hq
            have := ih _ (n + 1) (fun q hq => ?_) q hq
            · rw [List.length_cons]; omega
            · rcases List.mem_append.mp hq with hq | hq
              · have := h q hq; omega
              · obtain ⟨q', hq', rfl⟩ := List.mem_map.mp hq
                have := h q' hq'
                simp
                omega
        have := this (l.take i) [[]] 0 (fun q hq => by rw [List.mem_singleton.mp hq]; simp) q (List.mem_of_getElem? hq)
        rw [List.length_take] at this
        omega
      refine tg_name (et_yes ⟨fun _ => ?_, fun h => nomatch h⟩)
      refine ev_op (ev_var (d := tupI q) rfl (ev_tup (ea_cons (ev_var (d := .int p) rfl (ea_nil ⟨by simp, od_catT (by simp; omega) ?_⟩)))))
      rw [List.take_succ, hq]
      simp [tupI]
    · rintro x ds rfl rfl
      rw [List.length_map, List.take_length]
      refine od_cat (by simp; omega) ⟨.dat (.int p), z, ?_⟩
      rw [subs_snoc hp, List.map_append]
      rfl
  · rintro x δ rfl ⟨y, z, rfl⟩
    refine do_ret (ev_var rfl ⟨l, rfl, ?_⟩)
    rw [List.length_map, List.take_length]
theorem ok_first_standing {P : Program} {w : World} {K : PySem.W.Frag} {mg : Str → Option Value} {base : Heap} (T : Txt K mg) : FnOk P w K mg base CX0 6 T.f_first_standing T.fd_first_standing ["reader"] (spD K (preR T.c_Reader) (postR T.c_Reader fun r => .tup [.int 0, .tup (upto 0 (partsOf r.ss))])) := by
  refine T.F_first_standing.ok sc_first_standing (spD_len fun ds ⟨r, e, _⟩ => by rw [e]; rfl) (fun cdv A outer s H vs Q E hr h => ?_)
  refine ⟨_, (pss_one (ps_ret (pe_tup (pa_cons pe_int (pa_cons (pe_tupRg rfl (by rfl) T.b_tuple (prg_1 (by rfl) T.b_range (pe_prop (pv 0) T.cf_Reader.cl T.pr_Reader_parts (ok_Reader_parts T) (hr.mono (by decide)) T.bd_Reader_parts .nil pass0 rfl))) pa_nil))))), ?_⟩
  refine enterD h fun M ds pre _ => ?_
  obtain ⟨r, rfl, g⟩ := pre
  have p4 := g.ss.p4
  refine do_ret (ev_tup (ea_cons (ev_int (ea_cons (ev_tupRg1 (ev_prop (ev_var rfl ⟨_, rfl, ⟨r, rfl, g⟩, fun d hd => ?_⟩))))))) 
  obtain rfl := postR_of hd
  exact ⟨_, rfl, by omega, by omega, ea_nil ⟨by simp, r, rfl, g, by simp⟩⟩
/-! the keys -/
abbrev Stg := Int × List Int
def sgD (p : Stg) : D := stgD p.1 p.2
def stK (p : Stg) : NestedKey := .tup [.num p.1, .tup (p.2.map .num)]
theorem nkDs_ints : ∀ l : List Int, nkDs (l.map .num) = l.map D.int
  | [] => by simp [nkDs]
  | x :: l => by simp only [List.map_cons, nkDs, nkD, nkDs_ints l]
theorem depth_nums : ∀ l : List Int, NestedKey.depthAll (l.map .num) = 0
  | [] => by simp [NestedKey.depthAll]
  | x :: l => by simp only [List.map_cons, NestedKey.depthAll, NestedKey.depth, depth_nums l]; rfl
theorem nkD_stK (p : Stg) : nkD (stK p) = sgD p := by simp only [stK, nkD, nkDs, nkDs_ints, sgD, stgD]
theorem key_stK (p : Stg) : PfJ.KeyD (sgD p) (stK p) := ⟨(nkD_stK p).symm, by simp [stK, NestedKey.depth, NestedKey.depthAll, depth_nums], _, rfl⟩
theorem stK_inj {p q : Stg} (h : stK p = stK q) : p = q := by
  obtain ⟨a, l⟩ := p
  obtain ⟨b, m⟩ := q
  simp only [stK, NestedKey.tup.injEq, List.cons.injEq, NestedKey.num.injEq, and_true] at h
  obtain ⟨rfl, h⟩ := h
  have : l = m := by
    clear a
    induction l generalizing m with
    | nil => cases m with
      | nil => rfl
      | cons y m => cases h
    | cons x l ih => cases m with
      | nil => cases h
      | cons y m =>
        simp only [List.map_cons, List.cons.injEq, NestedKey.num.injEq] at h
        rw [h.1, ih m h.2]
  rw [this]
def kvD (ks : List Stg) : List (NestedKey × D) := ks.map fun p => (stK p, .bl true)
def addK (ks : List Stg) (p : Stg) : List Stg := if p ∈ ks then ks else ks ++ [p]
theorem kv_keys (ks : List Stg) : (kvD ks).map (·.1) = ks.map stK := by unfold kvD; rw [List.map_map]; rfl
theorem kv_mem {ks : List Stg} {p : Stg} : stK p ∈ (kvD ks).map (·.1) ↔ p ∈ ks := by
  rw [kv_keys, List.mem_map]
  exact ⟨fun ⟨q, hq, e⟩ => stK_inj e ▸ hq, fun h => ⟨p, h, rfl⟩⟩
theorem put_kv (ks : List Stg) (p : Stg) : PfJ.putND (kvD ks) (stK p) (.bl true) = kvD (addK ks p) := by
  unfold addK
  by_cases h : p ∈ ks
  · rw [if_pos h]
    unfold PfJ.putND
    have hs : (PfJ.valND (kvD ks) (stK p)).isSome = true := by
      cases z : PfJ.valND (kvD ks) (stK p) with
      | none => exact absurd (kv_mem.mpr h) (PfJ.valN_none.mp z)
      | some d => rfl
    rw [if_pos hs]
    unfold kvD
    rw [List.map_map]
    refine List.map_congr_left fun x _ => ?_
    show (if stK x = stK p then (stK x, D.bl true) else (stK x, D.bl true)) = _
    rw [ite_self]
  · rw [if_neg h, PfJ.putND_new (PfJ.valN_none.mpr fun z => h (kv_mem.mp z))]
    unfold kvD
    rw [List.map_append]
    rfl
theorem addK_mem {ks : List Stg} {p q : Stg} : q ∈ addK ks p ↔ q ∈ ks ∨ q = p := by
  unfold addK
  split
  · rename_i h
    exact ⟨.inl, fun z => z.elim id fun e => e ▸ h⟩
  · simp
theorem addK_nd {ks : List Stg} {p : Stg} (h : ks.Nodup) : (addK ks p).Nodup := by
  unfold addK
  split
  · exact h
  · rename_i hp
    refine List.nodup_append.mpr ⟨h, by simp, fun a ha b hb e => ?_⟩
    rw [List.mem_singleton.mp hb] at e
    exact hp (e ▸ ha)
theorem addK_len {ks : List Stg} {p : Stg} : (addK ks p).length ≤ ks.length + 1 := by
  unfold addK
  split
  · omega
  · simp

end Pf

set_option maxHeartbeats 16000000
namespace Pf
open PySem L2 PfL RZ
local macro_rules | `(tactic| walk_at "ev") => `(tactic| first
  | ((with_reducible refine' ev_var ?h ?_); (case h => rfl))
  | with_reducible refine ev_int ?_
  | with_reducible refine ev_bl ?_
  | with_reducible refine ev_str ?_
  | with_reducible refine ev_non ?_
  | with_reducible refine ev_ty ?_
  | with_reducible refine ev_op ?_
  | with_reducible refine ev_un ?_
  | with_reducible refine ev_chain ?_
  | with_reducible refine ev_if ?_
  | with_reducible refine ev_and ?_
  | with_reducible refine ev_or ?_
  | with_reducible refine ev_not ?_
  | with_reducible refine ev_lst ?_
  | with_reducible refine ev_tup ?_
  | with_reducible refine ea_nil ?_
  | with_reducible refine ea_cons ?_
  | with_reducible refine ev_cb ?_
  | with_reducible refine et_test ?_
  | with_reducible refine et_B ?_
  | with_reducible refine et_and ?_
  | with_reducible refine et_or ?_
  | with_reducible refine et_not ?_
  | with_reducible refine et_yes ?_
  | with_reducible refine eo_none ?_
  | with_reducible refine eo_some ?_
  | with_reducible refine ev_slS ?_
  | with_reducible refine od_int ?_
  | with_reducible refine od_bl ?_
  | with_reducible refine od_eq_int ?_
  | with_reducible refine od_ne_int ?_
  | with_reducible refine od_eq_bl ?_
  | with_reducible refine od_ne_bl ?_
  | with_reducible refine od_eq_str ?_
  | with_reducible refine od_ne_str ?_
  | with_reducible refine od_leS ?_
  | with_reducible refine ud_isN ?_
  | with_reducible refine ud_notN ?_
  | with_reducible refine do_seq ?_
  | with_reducible refine do_set ?_
  | with_reducible refine do_ret ?_
  | with_reducible refine do_retN ?_
  | with_reducible refine do_if ?_
  | with_reducible refine do_next ?_
  | with_reducible refine tg_name ?_
  | with_reducible refine tgs_nil ?_
  | with_reducible refine tgs_cons ?_)
/-! ### standings in order -/
theorem pyd_sg (p : Stg) : pyd (sgD p) = .tuple [.int p.1, .tuple (p.2.map .int)] := by simp [sgD, stgD, pyd, pydL, pydL_intsS]
theorem sok_sg (ks : List Stg) : SortOk (ks.map sgD) := by
  have em : (ks.map sgD).map pyd = ks.map fun p => pyd (sgD p) := by rw [List.map_map]; rfl
  refine ⟨?_, ?_, ?_, fun d hd => ?_⟩
  · induction ks with
    | nil => simp [plainL]
    | cons p ks ih =>
      have : plainD (sgD p) = true := by simp [sgD, stgD, plainD, plainL, plainL_intsS]
      simp [plainL, this, ih]
  · rw [em]
    exact PySem.W.AllAlike.of fun b b' => by rw [pyd_sg, pyd_sg]; simp [PySem.W.alike, PySem.W.alikeAll, PySem.W.alike_ints]
  · rw [em]
    exact PySem.W.Sortable.tuples fun b => ⟨_, _, pyd_sg b⟩
  · obtain ⟨p, _, rfl⟩ := List.mem_map.mp hd
    rw [pyd_sg]
    simp [PyData.depth, PyData.depthAll, PySem.W.depth_ints]
def sortS (ks : List Stg) : List Stg := ks.mergeSort (PySem.W.dataLe false fun p => pyd (sgD p))
theorem sortD_sg (ks : List Stg) : sortD (ks.map sgD) = (sortS ks).map sgD := by
  unfold sortD sortS
  exact (PySem.W.sort_maps sgD fun a _ b _ => rfl).symm
theorem sortS_perm (ks : List Stg) : (sortS ks).Perm ks := List.mergeSort_perm _ _
def ltS (p q : Stg) : Bool := decide (p.1 < q.1 ∨ (p.1 = q.1 ∧ p.2 < q.2))
theorem lt_s (p q : Stg) : PySem.W.dataLt (pyd (sgD p)) (pyd (sgD q)) = ltS p q := by
  rw [pyd_sg, pyd_sg, PySem.W.dataLt_pair (by simp [PySem.W.alike]) (by simp [PySem.W.alike, PySem.W.alike_ints]), PySem.W.dataLt_int, PySem.W.dataLt_tuple]
  show (if _ then (if _ then false else PySem.W.rowLt (p.2.map .int) (q.2.map .int)) else _) = _
  rw [PySem.W.dataLt_ints]
  unfold ltS
  simp only [PyData.eqv, beq_iff_eq, ints_eqvS, decide_eq_true_eq]
  by_cases h1 : p.1 = q.1
  · by_cases h2 : p.2 = q.2
    · simp [h1, h2, List.lt_irrefl]
    · simp [h1, h2]
  · simp [h1]
def leS (p q : Stg) : Bool := !ltS q p
theorem le_s : (PySem.W.dataLe false fun p : Stg => pyd (sgD p)) = leS := by
  funext p q
  show (!PySem.W.dataLt (pyd (sgD q)) (pyd (sgD p))) = _
  rw [lt_s]
  rfl
theorem leS_tot : PySem.W.TotalLe leS := by
  rw [← le_s]
  exact PySem.W.sortLe_total (PyProof.Rows.listOrd PyProof.Rows.itemOrd) false fun r : Stg => PySem.W.keyToks (pyd (sgD r))
theorem sortS_pw (ks : List Stg) : (sortS ks).Pairwise fun a b => leS a b = true := by
  unfold sortS
  rw [le_s]
  exact PySem.W.sort_pairwise leS_tot ks
theorem leS_iff {p q : Stg} : leS p q = true ↔ p.1 < q.1 ∨ (p.1 = q.1 ∧ p.2 ≤ q.2) := by
  unfold leS ltS
  rw [Bool.not_eq_true', decide_eq_false_iff_not]
  constructor
  · intro h
    by_cases h1 : p.1 < q.1
    · exact .inl h1
    · have h2 : p.1 = q.1 := by
        have : ¬ q.1 < p.1 := fun z => h (.inl z)
        omega
      exact .inr ⟨h2, List.not_lt.mp fun z => h (.inr ⟨h2.symm, z⟩)⟩
  · rintro (h | ⟨h1, h2⟩) (g | ⟨g1, g2⟩)
    · omega
    · omega
    · omega
    · exact List.not_lt.mpr h2 g2
theorem leS_anti (p q : Stg) (h1 : leS p q = true) (h2 : leS q p = true) : p = q := by
  rw [leS_iff] at h1 h2
  have e1 : p.1 = q.1 := by omega
  have l1 : p.2 ≤ q.2 := by
    rcases h1 with h | h
    · omega
    · exact h.2
  have l2 : q.2 ≤ p.2 := by
    rcases h2 with h | h
    · omega
    · exact h.2
  exact Prod.ext e1 (List.le_antisymm l1 l2)
theorem sorted_uniqS {α : Type} {le : α → α → Bool} (anti : ∀ a b, le a b = true → le b a = true → a = b) : ∀ {l m : List α}, l.Pairwise (fun a b => le a b = true) → m.Pairwise (fun a b => le a b = true) → l.Perm m → l = m
  | [], m, _, _, p => (List.Perm.eq_nil p.symm).symm
  | x :: l, [], _, _, p => absurd p.length_eq (by simp)
  | x :: l, y :: m, hl, hm, p => by
    have e : x = y := by
      rcases List.mem_cons.mp (p.mem_iff.mp (List.mem_cons_self (a := x) (l := l))) with e | hx
      · exact e
      rcases List.mem_cons.mp (p.mem_iff.mpr (List.mem_cons_self (a := y) (l := m))) with e | hy
      · exact e.symm
      exact anti x y ((List.pairwise_cons.mp hl).1 y hy) ((List.pairwise_cons.mp hm).1 x hx)
    subst e
    rw [sorted_uniqS anti (List.pairwise_cons.mp hl).2 (List.pairwise_cons.mp hm).2 p.cons_inv]
theorem sortS_of_perm {ks ms : List Stg} (p : ks.Perm ms) : sortS ks = sortS ms := sorted_uniqS leS_anti (sortS_pw ks) (sortS_pw ms) (((sortS_perm ks).trans p).trans (sortS_perm ms).symm)
/-! ### steps -/
def baseK (s : StT) (l : List Int) : List Stg := match s.2.2.1 with
  | some f => if s.1 ≤ askSum s.2.1 l then [(f, l)] else []
  | none => []
def thinF (s : StT) (t : Int) (ks : List Stg) (x : List Int) : List Stg := if askSum s.2.1 x < s.1 then addK ks (t, x) else ks
def thinK (s : StT) (ks : List Stg) (xs : List (List Int)) : List Stg := match s.2.2.2 with
  | some t => if 2 ≤ s.1 then xs.foldl (thinF s t) ks else ks
  | none => ks
def stepsP (r : RdT) (s : StT) (l : List Int) : List Stg := if r.m = "from" ∨ l = [] then [] else thinK s (baseK s l) (subs l)
theorem base_len (s : StT) (l : List Int) : (baseK s l).length ≤ 1 := by
  unfold baseK
  split
  · split <;> simp
  · simp
theorem base_nd (s : StT) (l : List Int) : (baseK s l).Nodup := by
  unfold baseK
  split
  · split <;> simp
  · simp
theorem thin_nd (s : StT) (t : Int) : ∀ (xs : List (List Int)) (ks : List Stg), ks.Nodup → (xs.foldl (thinF s t) ks).Nodup
  | [], ks, h => h
  | x :: xs, ks, h => by
    rw [List.foldl_cons]
    refine thin_nd s t xs _ ?_
    unfold thinF
    split
    · exact addK_nd h
    · exact h
theorem thin_len (s : StT) (t : Int) : ∀ (xs : List (List Int)) (ks : List Stg), (xs.foldl (thinF s t) ks).length ≤ ks.length + xs.length
  | [], ks => by simp
  | x :: xs, ks => by
    rw [List.foldl_cons]
    have h1 := thin_len s t xs (thinF s t ks x)
    have h2 : (thinF s t ks x).length ≤ ks.length + 1 := by
      unfold thinF
      split
      · exact addK_len
      · omega
    rw [List.length_cons]
    omega
theorem thin_mem (s : StT) (t : Int) {q : Stg} : ∀ (xs : List (List Int)) (ks : List Stg), q ∈ xs.foldl (thinF s t) ks ↔ q ∈ ks ∨ ∃ x ∈ xs, askSum s.2.1 x < s.1 ∧ q = (t, x)
  | [], ks => by simp
  | x :: xs, ks => by
    rw [List.foldl_cons, thin_mem s t xs]
    unfold thinF
    by_cases h : askSum s.2.1 x < s.1
    · rw [if_pos h, addK_mem]
      constructor
      · rintro ((h1 | h1) | ⟨y, hy, h1⟩)
        · exact .inl h1
        · exact .inr ⟨x, by simp, h, h1⟩
        · exact .inr ⟨y, List.mem_cons_of_mem _ hy, h1⟩
      · rintro (h1 | ⟨y, hy, h1, h2⟩)
        · exact .inl (.inl h1)
        · rcases List.mem_cons.mp hy with rfl | hy
          · exact .inl (.inr h2)
          · exact .inr ⟨y, hy, h1, h2⟩
    · rw [if_neg h]
      constructor
      · rintro (h1 | ⟨y, hy, h1⟩)
        · exact .inl h1
        · exact .inr ⟨y, List.mem_cons_of_mem _ hy, h1⟩
      · rintro (h1 | ⟨y, hy, h1, h2⟩)
        · exact .inl h1
        · rcases List.mem_cons.mp hy with rfl | hy
          · exact absurd h1 h
          · exact .inr ⟨y, hy, h1, h2⟩
theorem subs_mem {l q : List Int} (h : q ∈ subs l) : (∀ p ∈ q, p ∈ l) ∧ q.length ≤ l.length := by
  have : ∀ (m : List Int) (f : List (List Int)) (n : Nat), (∀ q ∈ f, (∀ p ∈ q, p ∈ l) ∧ q.length ≤ n) → (∀ p ∈ m, p ∈ l) → ∀ q ∈ m.foldl (fun found p => found ++ found.map (· ++ [p])) f, (∀ p ∈ q, p ∈ l) ∧ q.length ≤ n + m.length := fun m => by
    induction m with
    | nil => intro f n h _ q hq; exact h q hq
    | cons p m ih =>
      intro f n h hm q hq
      have := ih _ (n + 1) (fun q hq => ?_) (fun z hz => hm z (List.mem_cons_of_mem _ hz)) q hq
      · rw [List.length_cons]
        exact ⟨this.1, by omega⟩
      · rcases List.mem_append.mp hq with hq | hq
        · have := h q hq
          exact ⟨this.1, by omega⟩
        · obtain ⟨q', hq', rfl⟩ := List.mem_map.mp hq
          have := h q' hq'
          refine ⟨fun z hz => ?_, by simp; omega⟩
          rcases List.mem_append.mp hz with hz | hz
          · exact this.1 z hz
          · rw [List.mem_singleton.mp hz]
            exact hm p (by simp)
  have := this l [[]] 0 (fun q hq => by rw [List.mem_singleton.mp hq]; exact ⟨fun p hp => (nomatch hp), by simp⟩) (fun _ h => h) q h
  exact ⟨this.1, by omega⟩
def postSteps (c : Addr) : List D → List D → Prop := fun ds es => ∃ (r : RdT) (a : Nat) (l : List Int) (s : StT), ds = [.ins c (rdF r), stgD (a : Int) l] ∧ r.ss[a]? = some s ∧ isStg r (stgD (a : Int) l) = true ∧ es = (sortS (stepsP r s l)).map sgD
section
variable {F : Fm} {δ : List SD} {t u : TS} {P : List D → Prop}
theorem dn_cut (I : List SD → Prop) (h : Do F t δ { nx := I }) (k : ∀ δ', I δ' → DoN F u δ' P) : DoN F (tSeq t u) δ P :=
  dn_seq (h.imp (fun δ' i => k δ' i) (fun _ x => x) (fun _ x => x) (fun _ x => x))
variable {E : XK} {c : Addr} {r : RdT} {te : TE}
theorem v_prop {f : RdT → D} (g : GoodRd r) (h : Ev F te δ (· = .ins c (rdF r))) : Ev F (tProp c (spD F.K (preR c) (postR c f)) [] E te) δ (· = f r) :=
  ev_prop (h.imp fun x e => ⟨_, e, ⟨r, by rw [e], g⟩, fun d hd => by
    subst e
    exact postR_of hd⟩)
end
theorem ok_p_steps {P : Program} {w : World} {K : PySem.W.Frag} {mg : Str → Option Value} {base : Heap} (T : Txt K mg) : FnOk P w K mg base (L2.CX P w) 18 T.f_p_steps T.fd_p_steps ["reader", "standing"] (PfJ.spRN K (preStgG T.c_Reader) (postSteps T.c_Reader) (pxChk T.c_Reader T.c_InvalidStanding)) := by
  refine T.F_p_steps.okX sc_p_steps (fun vs H Q E s => PfJ.spRN_len (fun ds ⟨r, v, e, _⟩ => by rw [e]; rfl) s) (fun cdv A outer s H vs Q E hr h => ?_)
  refine ⟨_, (pss_cons (ps_expr (pe_call (ok__check_standing T) (hr.mono (by decide)) rfl T.g__check_standing T.k__check_standing T.bd__check_standing .nil passX (pa_cons (pv 0) (pa_cons (pv 1) pa_nil))))
    (pss_cons (ps_asg (pv 1) (pgTup K (n := 2) rfl (pgs_cons (pg_name (i := 2) sc_p_steps.nd rfl (Or.inl rfl)) (pgs_cons (pg_name (i := 3) sc_p_steps.nd rfl (Or.inl rfl)) pgs_nil))))
    (pss_cons (ps_if (PW.pt (pw_or (pt_cmpR op_eq (pe_prop (pv 0) T.cf_Reader.cl T.pr_Reader_mark (ok_Reader_mark T) (hr.mono (by decide)) T.bd_Reader_mark .nil pass0 rfl) pe_str (nomark _)) (pw_or1 (pt_cmpR op_eq (pe_callB (callLen K) (by rfl) T.b_len (by decide +kernel) (pa_cons (pv 3) pa_nil)) pe_int (nomark _))))) (pss_one (ps_ret (pe_lst pa_nil))) pss_nil)
    (pss_cons (ps_asg (pe_ix (ixL K) (pe_meth0 (pv 0) T.cf_Reader.cl T.m_Reader_states (ok_Reader_states T) (hr.mono (by decide)) T.bd_Reader_states .nil pass0) (pv 2) (fun _ _ => rfl)) (pgTup K (n := 4) rfl (pgs_cons (pg_name (i := 4) sc_p_steps.nd rfl (Or.inl rfl)) (pgs_cons (pg_name (i := 5) sc_p_steps.nd rfl (Or.inl rfl)) (pgs_cons (pg_name (i := 6) sc_p_steps.nd rfl (Or.inl rfl)) (pgs_cons (pg_name (i := 7) sc_p_steps.nd rfl (Or.inl rfl)) pgs_nil))))))
    (pss_cons (ps_set (i := 8) sc_p_steps.nd rfl (Or.inl rfl) (PfJ.peNNew w))
    (pss_cons (ps_if (PW.pt (pw_and (pt_cmpR op_notN (pv 6) pe_non (nomark _)) (pw_and1 (pt_cmpR op_ge (pe_call (ok__asked T) (hr.mono (by decide)) rfl T.g__asked T.k__asked T.bd__asked .nil pass0 (pa_cons (pv 5) (pa_cons (pv 3) pa_nil))) (pv 4) (nomark _))))) (pss_one (PfJ.psNPut K w hr.units (pv 8) (pe_tup (pa_cons (pv 6) (pa_cons (pv 3) pa_nil))) pe_bl rfl)) pss_nil)
    (pss_cons (ps_if (PW.pt (pw_and (pt_cmpR op_notN (pv 7) pe_non (nomark _)) (pw_and1 (pt_cmpR op_ge (pv 4) pe_int (nomark _))))) (pss_one (ps_for (passes_of rfl) rfl (piL K (pe_call (ok__subsets T) (hr.mono (by decide)) rfl T.g__subsets T.k__subsets T.bd__subsets .nil pass0 (pa_cons (pv 3) pa_nil))) (pg_name (i := 9) sc_p_steps.nd rfl (Or.inl rfl))
        (pss_one (ps_if (pt_cmpR op_lt (pe_call (ok__asked T) (hr.mono (by decide)) rfl T.g__asked T.k__asked T.bd__asked .nil pass0 (pa_cons (pv 5) (pa_cons (pv 9) pa_nil))) (pv 4) (nomark _)) (pss_one (PfJ.psNPut K w hr.units (pv 8) (pe_tup (pa_cons (pv 7) (pa_cons (pv 9) pa_nil))) pe_bl rfl)) pss_nil)))) pss_nil)
    (pss_one (ps_ret (pe_callB (PfJ.crSortN K w hr.units) (by rfl) T.b_sorted (by decide +kernel) (pa_cons (pv 8) pa_nil))))))))))), ?_⟩
  refine PfJ.enterRN h fun M ds pre _ ok => ?_
  obtain ⟨r, v, rfl, g, ov⟩ := pre
  have p4 := g.ss.p4
  refine dn_seq (do_drop (ev_callR ok (ea_cons (ev_var rfl (ea_cons (ev_var rfl (ea_nil ⟨⟨r, v, rfl, g, ov⟩, fun d ⟨r', v', e, hv⟩ => ?_, fun C gs h => h⟩)))))))
  obtain ⟨rfl, rfl⟩ := two_inj e
  obtain ⟨a, l, rfl, ha, hl⟩ := stg_of hv
  have hll := hl.len
  obtain ⟨s, hs⟩ : ∃ s, r.ss[a]? = some s := ⟨r.ss[a], by simp [ha]⟩
  have gs := g.ss.st s (List.mem_of_getElem? hs)
  have hal : ∀ p ∈ l, 0 ≤ p ∧ p < (s.2.1.length : Int) := fun p hp => by
    have := hl.bd p hp
    rw [gs.al]
    exact this
  refine dn_seq (do_asg (js := [2, 3]) (ev_var (d := stgD (a : Int) l) rfl (tg_tup rfl (tgs_cons (js := [2]) (ks := [3]) (tg_name (tgs_cons (js := [3]) (ks := []) (tg_name (tgs_nil ?_)))))))) 
  refine dn_ifS (EvT.val (vt_or (vt_test (v_eqS (v_prop g (v_var rfl)) (ev_str rfl))) (vt_test (v_op (v_len (k := l.length) (by simp [lenD]) (by omega) (v_var (x := .tup (l.map .int)) rfl)) (ev_int rfl) (od_eq_int rfl)))) ⟨fun h0 => ?_, fun h0 => ?_⟩)
  · refine dn_ret (en_lst (ea_nil ⟨by simp, r, a, l, s, rfl, hs, hv, ?_⟩))
    have : r.m = "from" ∨ l = [] := by
      rw [Bool.or_eq_true, decide_eq_true_eq, decide_eq_true_eq] at h0
      exact h0.imp id fun h => List.length_eq_zero_iff.mp (by omega)
    unfold stepsP
    rw [if_pos this]
    simp [sortS]
  have h0' : ¬ (r.m = "from" ∨ l = []) := by
    rw [Bool.or_eq_false_iff, decide_eq_false_iff_not, decide_eq_false_iff_not] at h0
    rintro (h | h)
    · exact h0.1 h
    · exact h0.2 (by rw [h]; rfl)
  have hsa : (stsD r.ss)[a]? = some (stD s) := by
    unfold stsD
    rw [List.getElem?_map, hs]
    rfl
  refine dn_seq (do_asg (js := [4, 5, 6, 7]) (ev_op (EvN.ev (en_meth (ev_var rfl ⟨_, rfl, rfl, ea_nil ⟨⟨r, rfl, g⟩, fun es he => ?_⟩⟩)))))
  obtain rfl := sts_of he
  refine ev_var (d := .int (a : Int)) rfl (od_ixL (d := stD s) (atI_nat hsa) (tg_tup rfl ?_))
  refine tgs_cons (js := [4]) (ks := [5, 6, 7]) (tg_name (tgs_cons (js := [5]) (ks := [6, 7]) (tg_name (tgs_cons (js := [6]) (ks := [7]) (tg_name (tgs_cons (js := [7]) (ks := []) (tg_name (tgs_nil ?_))))))))
  refine dn_seq (PfJ.do_ownDicN fun p => ?_)
  let st : List Stg → SD → List SD := fun ks z => [.dat (.ins T.c_Reader (rdF r)), .dat (stgD (a : Int) l), .dat (.int (a : Int)), .dat (.tup (l.map .int)), .dat (.int s.1), .dat (.tup (s.2.1.map .int)), .dat (optD s.2.2.1), .dat (optD s.2.2.2), .own p (.dicN w (kvD ks)), z]
  have asked : ∀ {x : List Int} {j : Nat} {δ : List SD} {E' : XK}, (∀ p ∈ x, p ∈ l) → x.length ≤ 4 → δ[5]? = some (.dat (.tup (s.2.1.map .int))) → δ[j]? = some (.dat (tupI x)) → Ev ⟨K, none, M, H, E, 0, []⟩ (tCall (spD K preAsked postAsked) [] E' (tCons (tVar 5) (tCons (tVar j) tNil))) δ (· = .int (askSum s.2.1 x)) := fun {x j δ E'} hx h4 h5 hj =>
    ev_call (ea_cons (ev_var h5 (ea_cons (ev_var hj (ea_nil ⟨⟨s.2.1, x, rfl, fun p hp => hal p (hx p hp), h4⟩, fun d ⟨as', x', e, hd⟩ => by
      simp only [tupI, List.cons.injEq, D.tup.injEq, and_true] at e
      rw [hd, ints_inj e.1, ints_inj e.2]⟩)))))
  refine dn_cut (fun δ' => δ' = st (baseK s l) .un) (do_ifV (vt_and (vt_test (v_notN (v_var (x := optD s.2.2.1) rfl))) (vt_test (v_cmp (asked (x := l) (fun _ h => h) (by omega) rfl rfl) (v_var (x := .int s.1) rfl)))) (fun hb => ?_) (fun hb => do_next ?_)) ?_
  · rw [Bool.and_eq_true] at hb
    obtain ⟨f, hf⟩ : ∃ f, s.2.2.1 = some f := by
      cases z : s.2.2.1 with
      | none => rw [z] at hb; cases hb.1
      | some f => exact ⟨f, rfl⟩
    refine PfJ.do_nput (i := 8) (p := p) (kvs := kvD []) rfl (by simp [kvD]) (ev_bl (ev_tup (ea_cons (ev_var (d := .int f) (by rw [hf]; rfl) (ea_cons (ev_var (d := .tup (l.map .int)) rfl (ea_nil ⟨by simp, stK (f, l), key_stK (f, l), ?_⟩)))))))
    have hbk : baseK s l = [(f, l)] := by
      unfold baseK
      rw [hf]
      exact if_pos (of_decide_eq_true hb.2)
    rw [put_kv, hbk, show addK [] (f, l) = [(f, l)] by simp [addK]]
    rfl
  · show _ = st (baseK s l) .un
    have : baseK s l = [] := by
      unfold baseK
      cases z : s.2.2.1 with
      | none => rfl
      | some f =>
        rw [z] at hb
        have hb : (true && decide (askSum s.2.1 l ≥ s.1)) = false := hb
        rw [Bool.true_and, decide_eq_false_iff_not] at hb
        exact if_neg hb
    rw [this]
    rfl
  rintro δ' rfl
  have bl := base_len s l
  refine dn_cut (fun δ' => ∃ z, δ' = st (thinK s (baseK s l) (subs l)) z) (do_ifV (vt_and (vt_test (v_notN (v_var (x := optD s.2.2.2) rfl))) (vt_test (v_cmp (v_var (x := .int s.1) rfl) (ev_int rfl)))) (fun hb => ?_) (fun hb => do_next ⟨.un, ?_⟩)) ?_
  · rw [Bool.and_eq_true] at hb
    obtain ⟨t, ht⟩ : ∃ t, s.2.2.2 = some t := by
      cases z : s.2.2.2 with
      | none => rw [z] at hb; cases hb.1
      | some f => exact ⟨f, rfl⟩
    have h2 : 2 ≤ s.1 := of_decide_eq_true hb.2
    have sl := subs_le (l := l) (by omega)
    refine do_for (js := [9]) (PX := fun x => x = (subs l).map tupI) (it_list (ev_call (ea_cons (ev_var (d := tupI l) rfl (ea_nil ⟨⟨l, rfl, by omega⟩, fun d ⟨l', e, hd⟩ => ⟨_, hd, ?_⟩⟩))))) (fun _ i δ => ∃ z, δ = st (((subs l).take i).foldl (thinF s t) (baseK s l)) z) (fun _ _ => ⟨_, rfl⟩) ?_ ?_
    · simp only [tupI, List.cons.injEq, D.tup.injEq, and_true] at e
      rw [ints_inj e]
    · rintro x i d δ rfl hi ⟨z, rfl⟩
      rw [List.getElem?_map] at hi
      obtain ⟨q, hq, rfl⟩ := Option.map_eq_some_iff.mp hi
      obtain ⟨hq1, hq2⟩ := subs_mem (List.mem_of_getElem? hq)
      have ln := thin_len s t ((subs l).take i) (baseK s l)
      rw [List.length_take] at ln
      refine tg_name (do_ifV (vt_test (v_cmp (asked (x := q) hq1 (by omega) rfl rfl) (v_var (x := .int s.1) rfl))) (fun hb => ?_) (fun hb => do_next ⟨.dat (tupI q), ?_⟩))
      · refine PfJ.do_nput (i := 8) (p := p) (kvs := kvD (((subs l).take i).foldl (thinF s t) (baseK s l))) rfl (by unfold kvD; rw [List.length_map]; omega) (ev_bl (ev_tup (ea_cons (ev_var (d := .int t) (by show some (SD.dat (optD s.2.2.2)) = _; rw [ht]; rfl) (ea_cons (ev_var (d := tupI q) rfl (ea_nil ⟨by simp, stK (t, q), key_stK (t, q), .dat (tupI q), ?_⟩)))))))
        rw [put_kv, List.take_succ, hq, List.foldl_append]
        show _ = st (thinF s t _ q) _
        unfold thinF
        rw [if_pos (of_decide_eq_true hb)]
        rfl
      · rw [List.take_succ, hq, List.foldl_append]
        show _ = st (thinF s t _ q) _
        have : thinF s t (((subs l).take i).foldl (thinF s t) (baseK s l)) q = ((subs l).take i).foldl (thinF s t) (baseK s l) := if_neg (of_decide_eq_false hb)
        rw [this]
        rfl
    · rintro x δ rfl ⟨z, rfl⟩
      refine ⟨z, ?_⟩
      rw [List.length_map, List.take_length]
      unfold thinK
      rw [ht]
      show _ = st (if 2 ≤ s.1 then _ else _) z
      rw [if_pos h2]
  · show _ = st (thinK s (baseK s l) (subs l)) .un
    have : thinK s (baseK s l) (subs l) = baseK s l := by
      unfold thinK
      cases z : s.2.2.2 with
      | none => rfl
      | some t =>
        rw [z] at hb
        have hb : (true && decide (s.1 ≥ 2)) = false := hb
        rw [Bool.true_and, decide_eq_false_iff_not] at hb
        exact if_neg hb
    rw [this]
  rintro δ' ⟨z, rfl⟩
  have em : (kvD (thinK s (baseK s l) (subs l))).map (fun x => nkD x.1) = (thinK s (baseK s l) (subs l)).map sgD := by
    unfold kvD
    rw [List.map_map]
    exact List.map_congr_left fun x _ => nkD_stK x
  refine dn_ret (PfJ.en_sortedNO (i := 8) (p := p) (kvs := kvD (thinK s (baseK s l) (subs l))) rfl (by rw [em]; exact sok_sg _) ?_)
  rw [em]
  refine ⟨r, a, l, s, rfl, hs, hv, ?_⟩
  rw [sortD_sg]
  unfold stepsP
  rw [if_neg h0']

end Pf

/-! CoreJ4: x not in a list of one's own (deep), int of an int. -/
namespace PfJ
open PySem L2 PySem.Spec Pf
theorem opNotInD (K : PySem.W.Frag) {X : Cx} (hu : X.A.units + 65 < cLine) (h : X.K = K := by rfl) : OpR X (compareOp .NotIn) (rNotInD K) := by subst h; exact op_notInD hu
section
variable {F : Fm} {δ : List SD} {te : TE} {P : D → Prop}
theorem ev_ninDO {i : Nat} {p : Addr} {ds : List D} (hi : δ[i]? = some (.own p (.lst ds))) (pl : plainL ds = true) (sy : SeqAt.shaped (pyd (.lst ds)) = true) (h : Ev F te δ fun x => plainD x = true ∧ SeqAt.shaped (pyd x) = true ∧ P (.bl (!ds.any fun z => PyData.eqv (pyd z) (pyd x)))) : Ev F (tOp (rNotInD F.K) te (tVar i)) δ P := fun M σ H Q c q =>
  h M σ H _ c fun v x H1 p1 c1 e1 r1 => by
    obtain ⟨px, sx, p1⟩ := p1
    obtain ⟨s, hs, e, m, ho, hp, rr⟩ := c1.sl i _ hi
    subst e
    cases rr with
    | @lst us _ rr =>
      refine ⟨_, hs, pyd x, pydL ds, rep_dp (r1.mono (same_hd M H1)) px, .lst (SqL.of hp) (repL_dp (rr.mono (same_hd M H1)) pl), sx, by simpa only [pyd] using sy, ?_⟩
      have e : (pydL ds).any (fun z => PyData.eqv z (pyd x)) = ds.any fun z => PyData.eqv (pyd z) (pyd x) := by
        rw [pydL_map, List.any_map]
        rfl
      rw [e]
      exact q _ _ H1 p1 c1 e1 (.bl _)
end
theorem cd_int1 {K : PySem.W.Frag} {P : D → Prop} {i : Int} (p : P (.int i)) : CallD K (fun xs H Q => (∃ i, xs = [.int i] ∧ Q (.int i) H) ∨ ∃ k, xs = [.bl k] ∧ Q (.int (if k then 1 else 0)) H) [.int i] P := fun M H vs Q al r q => by
  cases r with
  | cons r1 r2 =>
    cases r2
    cases r1
    exact .inl ⟨i, rfl, q _ _ H p (Same.refl H) (.int i)⟩
end PfJ

set_option maxHeartbeats 16000000
namespace Pf
open PySem L2 PfL RZ
local macro_rules | `(tactic| walk_at "ev") => `(tactic| first
  | ((with_reducible refine' ev_var ?h ?_); (case h => rfl))
  | with_reducible refine ev_int ?_
  | with_reducible refine ev_bl ?_
  | with_reducible refine ev_str ?_
  | with_reducible refine ev_non ?_
  | with_reducible refine ev_ty ?_
  | with_reducible refine ev_op ?_
  | with_reducible refine ev_un ?_
  | with_reducible refine ev_chain ?_
  | with_reducible refine ev_if ?_
  | with_reducible refine ev_and ?_
  | with_reducible refine ev_or ?_
  | with_reducible refine ev_not ?_
  | with_reducible refine ev_lst ?_
  | with_reducible refine ev_tup ?_
  | with_reducible refine ea_nil ?_
  | with_reducible refine ea_cons ?_
  | with_reducible refine ev_cb ?_
  | with_reducible refine et_test ?_
  | with_reducible refine et_B ?_
  | with_reducible refine et_and ?_
  | with_reducible refine et_or ?_
  | with_reducible refine et_not ?_
  | with_reducible refine et_yes ?_
  | with_reducible refine eo_none ?_
  | with_reducible refine eo_some ?_
  | with_reducible refine ev_slS ?_
  | with_reducible refine od_int ?_
  | with_reducible refine od_bl ?_
  | with_reducible refine od_eq_int ?_
  | with_reducible refine od_ne_int ?_
  | with_reducible refine od_eq_bl ?_
  | with_reducible refine od_ne_bl ?_
  | with_reducible refine od_eq_str ?_
  | with_reducible refine od_ne_str ?_
  | with_reducible refine od_leS ?_
  | with_reducible refine ud_isN ?_
  | with_reducible refine ud_notN ?_
  | with_reducible refine do_seq ?_
  | with_reducible refine do_set ?_
  | with_reducible refine do_ret ?_
  | with_reducible refine do_retN ?_
  | with_reducible refine do_if ?_
  | with_reducible refine do_next ?_
  | with_reducible refine tg_name ?_
  | with_reducible refine tgs_nil ?_
  | with_reducible refine tgs_cons ?_)
/-! ### kinds_at, refused -/
def preBad (c : Addr) (n : Str) : List D → Prop := fun ds => ∃ (r : RdT) (v : D), ds = [.ins c (rdF r), v] ∧ GoodRd r ∧ okZ v ∧ isStg r v = false
theorem ok_kinds_at {P : Program} {w : World} {K : PySem.W.Frag} {mg : Str → Option Value} {base : Heap} (T : Txt K mg) : FnOk P w K mg base (L2.CX P w) 18 T.f_kinds_at T.fd_kinds_at ["reader", "standing"] (spR K (preBad T.c_Reader "") (fun _ _ => False) (pxChk T.c_Reader T.c_InvalidStanding)) := by
  refine T.F_kinds_at.okX sc_kinds_at (fun vs H Q E s => spR_len (fun ds ⟨r, v, e, _⟩ => by rw [e]; rfl) s) (fun cdv A outer s H vs Q E hr h => ?_)
  refine ⟨_, (pss_cons (ps_expr (pe_call (ok__check_standing T) (hr.mono (by decide)) rfl T.g__check_standing T.k__check_standing T.bd__check_standing .nil passX (pa_cons (pv 0) (pa_cons (pv 1) pa_nil))))
    (pss_cons ps_never
    (pss_cons ps_never
    (pss_cons ps_never
    (pss_cons ps_never
    (pss_cons ps_never
    (pss_cons ps_never
    (pss_cons ps_never
    (pss_cons ps_never
    (pss_cons ps_never
    (pss_one ps_never))))))))))), ?_⟩
  refine enterR h fun M ds pre _ ok => ?_
  obtain ⟨r, v, rfl, g, ov, bad⟩ := pre
  refine do_seq (do_drop (ev_callR ok (ea_cons (ev_var rfl (ea_cons (ev_var rfl (ea_nil ⟨⟨r, v, rfl, g, ov⟩, fun d ⟨r', v', e, hv⟩ => ?_, fun C gs h => h⟩)))))))
  obtain ⟨rfl, rfl⟩ := two_inj e
  rw [bad] at hv
  cases hv
/-! ### the law's steps -/
def bitI (m p : Int) : Bool := decide (m / ([1, 2, 4, 8] : List Int).getD p.toNat 1 % 2 = 1)
def lawSub (l : List Int) (m : Int) : List Int := l.filter fun p => bitI m p
def lawF (s : StT) (t : Int) (l : List Int) (ks : List Stg) (m : Int) : List Stg := if askSum s.2.1 (lawSub l m) < s.1 ∧ (t, lawSub l m) ∉ ks then ks ++ [(t, lawSub l m)] else ks
def lawMany (s : StT) : Nat := match s.2.2.2 with
  | some _ => if 1 < s.1 then 16 else 0
  | none => 0
def lawT (s : StT) (l : List Int) (ks : List Stg) (n : Nat) : List Stg := match s.2.2.2 with
  | some t => ((List.range n).map fun i : Nat => (i : Int)).foldl (lawF s t l) ks
  | none => ks
def stepsL (r : RdT) (s : StT) (l : List Int) : List Stg := if r.m = "from" ∨ l = [] then [] else lawT s l (baseK s l) (lawMany s)
theorem lawF_add (s : StT) (t : Int) (l : List Int) (ks : List Stg) (m : Int) : lawF s t l ks m = thinF s t ks (lawSub l m) := by
  unfold lawF thinF addK
  by_cases h1 : askSum s.2.1 (lawSub l m) < s.1
  · by_cases h2 : (t, lawSub l m) ∈ ks
    · rw [if_neg (fun h => h.2 h2), if_pos h1, if_pos h2]
    · rw [if_pos ⟨h1, h2⟩, if_pos h1, if_neg h2]
  · rw [if_neg (fun h => h1 h.1), if_neg h1]
theorem lawT_fold (s : StT) (t : Int) (l : List Int) : ∀ (ms : List Int) (ks : List Stg), ms.foldl (lawF s t l) ks = (ms.map (lawSub l)).foldl (thinF s t) ks
  | [], ks => rfl
  | m :: ms, ks => by rw [List.foldl_cons, List.map_cons, List.foldl_cons, lawF_add, lawT_fold s t l ms]
/-! all lists of live parts -/
def sel (a b c d : Bool) : List Int := (if a then [0] else []) ++ ((if b then [1] else []) ++ ((if c then [2] else []) ++ (if d then [3] else [])))
theorem sel_mem {a b c d : Bool} {k : Int} : k ∈ sel a b c d ↔ (a = true ∧ k = 0) ∨ (b = true ∧ k = 1) ∨ (c = true ∧ k = 2) ∨ (d = true ∧ k = 3) := by
  unfold sel
  cases a <;> cases b <;> cases c <;> cases d <;> simp
theorem sel_pw (a b c d : Bool) : (sel a b c d).Pairwise (· < ·) := by cases a <;> cases b <;> cases c <;> cases d <;> decide
theorem live_sel {P : Nat} {l : List Int} (h : Live P l) (p4 : P ≤ 4) : ∃ a b c d, l = sel a b c d := by
  refine ⟨decide (0 ∈ l), decide (1 ∈ l), decide (2 ∈ l), decide (3 ∈ l), asc_uniq h.pw (sel_pw _ _ _ _) fun k => ?_⟩
  rw [sel_mem]
  simp only [decide_eq_true_eq]
  constructor
  · intro hk
    have := h.bd k hk
    obtain h | h | h | h : k = 0 ∨ k = 1 ∨ k = 2 ∨ k = 3 := by omega
    · exact .inl ⟨h ▸ hk, h⟩
    · exact .inr (.inl ⟨h ▸ hk, h⟩)
    · exact .inr (.inr (.inl ⟨h ▸ hk, h⟩))
    · exact .inr (.inr (.inr ⟨h ▸ hk, h⟩))
  · rintro (⟨h, e⟩ | ⟨h, e⟩ | ⟨h, e⟩ | ⟨h, e⟩) <;> exact e ▸ h
def masks : List Int := (List.range 16).map fun i : Nat => (i : Int)
theorem subs_same : ([true, false].all fun a => [true, false].all fun b => [true, false].all fun c => [true, false].all fun d =>
    (subs (sel a b c d)).all (fun x => (masks.map (lawSub (sel a b c d))).contains x) && (masks.map (lawSub (sel a b c d))).all (fun x => (subs (sel a b c d)).contains x)) = true := by decide +kernel
theorem subs_iff {P : Nat} {l : List Int} (h : Live P l) (p4 : P ≤ 4) (x : List Int) : x ∈ subs l ↔ x ∈ masks.map (lawSub l) := by
  obtain ⟨a, b, c, d, rfl⟩ := live_sel h p4
  have bm : ∀ b : Bool, b ∈ [true, false] := fun b => by cases b <;> simp
  have := List.all_eq_true.mp (List.all_eq_true.mp (List.all_eq_true.mp (List.all_eq_true.mp subs_same a (bm a)) b (bm b)) c (bm c)) d (bm d)
  rw [Bool.and_eq_true] at this
  exact ⟨fun hx => by simpa using List.all_eq_true.mp this.1 x hx, fun hx => by simpa using List.all_eq_true.mp this.2 x hx⟩
theorem steps_same {r : RdT} {s : StT} {l : List Int} {P : Nat} (h : Live P l) (p4 : P ≤ 4) : sortS (stepsL r s l) = sortS (stepsP r s l) := by
  refine sortS_of_perm ?_
  unfold stepsL stepsP
  split
  · exact List.Perm.refl _
  unfold lawT thinK lawMany
  cases ht : s.2.2.2 with
  | none => exact List.Perm.refl _
  | some t =>
    show (List.foldl (lawF s t l) (baseK s l) ((List.range (if 1 < s.1 then 16 else 0)).map fun i : Nat => (i : Int))).Perm (if 2 ≤ s.1 then _ else _)
    by_cases h2 : 2 ≤ s.1
    · rw [if_pos h2, if_pos (by omega), lawT_fold]
      refine (List.perm_ext_iff_of_nodup (thin_nd s t _ _ (base_nd s l)) (thin_nd s t _ _ (base_nd s l))).mpr fun q => ?_
      rw [thin_mem, thin_mem]
      constructor
      · rintro (h1 | ⟨x, hx, h1⟩)
        · exact .inl h1
        · exact .inr ⟨x, (subs_iff h p4 x).mpr hx, h1⟩
      · rintro (h1 | ⟨x, hx, h1⟩)
        · exact .inl h1
        · exact .inr ⟨x, (subs_iff h p4 x).mp hx, h1⟩
    · rw [if_neg h2, if_neg (by omega)]
      exact List.Perm.refl _
def preSome : List D → Prop := fun ds => ∃ r : RdT, ds = [specD r] ∧ GoodRd r
def postSome : List D → D → Prop := fun ds d => ∃ (r : RdT) (a : Nat) (l : List Int), ds = [specD r] ∧ d = stgD (a : Int) l ∧ a < r.ss.length ∧ Live (partsOf r.ss) l
theorem ok_some_standing {P : Program} {w : World} {K : PySem.W.Frag} {mg : Str → Option Value} {base : Heap} (T : Txt K mg) : FnOk P w K mg base CX0 4 T.f_some_standing T.fd_some_standing ["_law_bag", "_law_spec_here"] (spB K preSome postSome) := by
  refine T.F_some_standing.ok sc_some_standing (spB_len fun ds ⟨r, e, _⟩ => by rw [e]; rfl) (fun cdv A outer s H vs Q E hr h => ?_)
  refine ⟨_, (pss_cons (ps_set (i := 2) sc_some_standing.nd rfl (Or.inl rfl) (pe_listRg rfl (by rfl) T.b_list (prg_1 (by rfl) T.b_range (pe_callB (callLen K) (by rfl) T.b_len (by decide +kernel) (pa_cons (pe_ix (ixT K) (pe_ix (ixL K) (pe_ix (ixT K) (pv 1) pe_int (fun _ _ => rfl)) pe_int (fun _ _ => rfl)) pe_int (fun _ _ => rfl)) pa_nil)))))
    (pss_one (ps_ret (pe_tup (pa_cons (pe_call (ok_draw T) (hr.mono (by decide)) rfl T.g_draw T.k_draw T.bd_draw .nil pass0 (pa_cons (pv 0) (pa_cons (pe_callB (callLen K) (by rfl) T.b_len (by decide +kernel) (pa_cons (pe_ix (ixT K) (pv 1) pe_int (fun _ _ => rfl)) pa_nil)) pa_nil))) (pa_cons (pe_callTy (callTuple K) (by rfl) T.b_tuple (by decide +kernel) (pa_cons (pe_lc (own := [("_law_part", 3)]) rfl sc_some_standing.nd (piL K (pv 2)) (blkOk_by (N := N_some_standing) (sc := defScope s_some_standing) (by decide +kernel)) (fun _ _ _ _ _ => (pg_name (i := 3) sc_some_standing.nd rfl (Or.inl rfl))) (fun _ _ _ _ _ => (pts_one (pt_cmpR op_gt (pe_call (ok_draw T) (hr.mono (by decide)) rfl T.g_draw T.k_draw T.bd_draw .nil pass0 (pa_cons (pv 0) (pa_cons pe_int pa_nil))) pe_int (nomark _)))) (fun _ _ _ _ _ => (pv 3))) pa_nil)) pa_nil)))))), ?_⟩
  refine enterB h fun M b c ds pre _ => ?_
  obtain ⟨r, rfl, g⟩ := pre
  have n0 := g.ss.n0
  have n6 := g.ss.n6
  have p4 := g.ss.p4
  obtain ⟨s0, ss', hss, hl⟩ := first_st g.ss
  refine do_let (.lst (upto 0 ((partsOf r.ss : Nat) : Int).toNat)) (EvN.ev (en_lstRg1 (Ev.val (v := .int (partsOf r.ss : Int)) (v_len (k := partsOf r.ss) (by simp [lenD, hl]) (by omega) (v_ixT (z := .tup (s0.2.1.map .int)) rfl (v_ixL (z := stD s0) (by rw [hss]; exact atI_nat (j := 0) (by simp [stsD])) (v_ixT (z := .lst (stsD r.ss)) rfl (v_var (x := specD r) rfl) (ev_int rfl)) (ev_int rfl)) (ev_int rfl))) ⟨_, rfl, by omega, by omega, rfl⟩))) ?_
  refine do_ret (ev_tup (ea_cons (ev_draw rfl rfl (ea_cons (Ev.val (v_len (k := r.ss.length) (by simp [lenD, stsD_len]) (by omega) (v_ixT (z := .lst (stsD r.ss)) rfl (v_var (x := specD r) rfl) (ev_int rfl))) (ea_nil ⟨_, rfl, by omega, by omega, fun k k0 k1 => ?_⟩))))))
  refine ea_cons (ev_cb (ea_cons (EvN.ev ?_)))
  refine en_lc (js := [3]) (PX := fun l => l = upto 0 (partsOf r.ss)) (it_list (ev_var rfl ⟨_, rfl, by simp⟩)) (fun l e => by rw [e, upto_len]; omega) (by decide) (fun l i acc => ∃ ps : List Int, acc = ps.map D.int ∧ ps.Pairwise (· < ·) ∧ ∀ p ∈ ps, 0 ≤ p ∧ p < (i : Int)) (fun l e => ⟨[], rfl, .nil, fun p hp => by simp at hp⟩) ?_ ?_
  · rintro l i d acc rfl hi ⟨ps, rfl, pw, bd⟩
    obtain ⟨hlt, rfl⟩ := upto_get hi
    refine tg_name (et_test (ev_op (ev_draw rfl rfl (ea_cons (ev_int (ea_nil ⟨3, rfl, by decide, by decide, fun q _ _ => ev_int (od_bl ⟨_, rfl, fun _ => ?_, fun _ => ?_⟩)⟩))))))
    · refine ev_var rfl ⟨ps ++ [(i : Int)], by simp, ?_, fun p hp => ?_⟩
      · rw [List.pairwise_append]
        exact ⟨pw, List.pairwise_singleton _ _, fun a ha b hb => by
          rw [List.mem_singleton.mp hb]
          exact (bd a ha).2⟩
      · rcases List.mem_append.mp hp with hp | hp
        · have := bd p hp
          omega
        · rw [List.mem_singleton.mp hp]
          omega
    · exact ⟨ps, rfl, pw, fun p hp => by have := bd p hp; omega⟩
  · rintro l ds rfl ⟨ps, rfl, pw, bd⟩
    rw [upto_len] at bd
    refine ea_nil (cd_tupL (ea_nil ⟨by simp, r, k.toNat, ps, rfl, ?_, by omega, pw, bd⟩))
    have : ((k.toNat : Nat) : Int) = k := by omega
    unfold stgD
    rw [this]

end Pf

set_option maxHeartbeats 16000000
namespace Pf
open PySem L2 PfL RZ
local macro_rules | `(tactic| walk_at "ev") => `(tactic| first
  | ((with_reducible refine' ev_var ?h ?_); (case h => rfl))
  | with_reducible refine ev_int ?_
  | with_reducible refine ev_bl ?_
  | with_reducible refine ev_str ?_
  | with_reducible refine ev_non ?_
  | with_reducible refine ev_ty ?_
  | with_reducible refine ev_op ?_
  | with_reducible refine ev_un ?_
  | with_reducible refine ev_chain ?_
  | with_reducible refine ev_if ?_
  | with_reducible refine ev_and ?_
  | with_reducible refine ev_or ?_
  | with_reducible refine ev_not ?_
  | with_reducible refine ev_lst ?_
  | with_reducible refine ev_tup ?_
  | with_reducible refine ea_nil ?_
  | with_reducible refine ea_cons ?_
  | with_reducible refine ev_cb ?_
  | with_reducible refine et_test ?_
  | with_reducible refine et_B ?_
  | with_reducible refine et_and ?_
  | with_reducible refine et_or ?_
  | with_reducible refine et_not ?_
  | with_reducible refine et_yes ?_
  | with_reducible refine eo_none ?_
  | with_reducible refine eo_some ?_
  | with_reducible refine ev_slS ?_
  | with_reducible refine od_int ?_
  | with_reducible refine od_bl ?_
  | with_reducible refine od_eq_int ?_
  | with_reducible refine od_ne_int ?_
  | with_reducible refine od_eq_bl ?_
  | with_reducible refine od_ne_bl ?_
  | with_reducible refine od_eq_str ?_
  | with_reducible refine od_ne_str ?_
  | with_reducible refine od_leS ?_
  | with_reducible refine ud_isN ?_
  | with_reducible refine ud_notN ?_
  | with_reducible refine do_seq ?_
  | with_reducible refine do_set ?_
  | with_reducible refine do_ret ?_
  | with_reducible refine do_retN ?_
  | with_reducible refine do_if ?_
  | with_reducible refine do_next ?_
  | with_reducible refine tg_name ?_
  | with_reducible refine tgs_nil ?_
  | with_reducible refine tgs_cons ?_)
/-! ### the law's steps, on data -/
theorem pow_at {p : Int} (h0 : 0 ≤ p) (h4 : p < 4) : atI [D.int 1, .int 2, .int 4, .int 8] p = some (.int (([1, 2, 4, 8] : List Int).getD p.toNat 1)) ∧ 0 < ([1, 2, 4, 8] : List Int).getD p.toNat 1 ∧ ([1, 2, 4, 8] : List Int).getD p.toNat 1 < 1073741824 := by
  obtain rfl | rfl | rfl | rfl : p = 0 ∨ p = 1 ∨ p = 2 ∨ p = 3 := by omega
  all_goals exact ⟨rfl, by decide, by decide⟩
theorem plainL_sg (ks : List Stg) : plainL (ks.map sgD) = true := (sok_sg ks).pl
theorem lay_ints : ∀ ps : List Int, PyData.canLayAll0 (ps.map PyData.int) = true
  | [] => by simp [PyData.canLayAll0]
  | p :: ps => by simp [PyData.canLayAll0, PyData.canLay0, lay_ints ps]
theorem lay_sg (p : Stg) : PyData.canLay0 (pyd (sgD p)) = true := by rw [pyd_sg]; simp [PyData.canLay0, PyData.canLayAll0, lay_ints]
theorem dep_sg (p : Stg) : (pyd (sgD p)).depth = 2 := by rw [pyd_sg]; simp [PyData.depth, PyData.depthAll, PySem.W.depth_ints]
theorem shaped_sg (p : Stg) : SeqAt.shaped (pyd (sgD p)) = true := by
  unfold SeqAt.shaped
  rw [lay_sg, dep_sg]
  decide
theorem shaped_sgs (ks : List Stg) : SeqAt.shaped (pyd (.lst (ks.map sgD))) = true := by
  have h1 : PyData.canLayAll0 (pydL (ks.map sgD)) = true := by
    induction ks with
    | nil => simp [pydL, PyData.canLayAll0]
    | cons p ks ih => simp [pydL, PyData.canLayAll0, lay_sg, ih]
  have h2 : PyData.depthAll (pydL (ks.map sgD)) ≤ 2 := by
    induction ks with
    | nil => simp [pydL, PyData.depthAll]
    | cons p ks ih =>
      simp only [List.map_cons, pydL, PyData.depthAll, dep_sg]
      have := ih (by simpa [pydL, PyData.canLayAll0, lay_sg] using h1)
      omega
  unfold SeqAt.shaped
  simp only [pyd, PyData.canLay0, PyData.depth, h1, Bool.true_and, decide_eq_true_eq]
  omega
theorem eqv_sg (p q : Stg) : PyData.eqv (pyd (sgD p)) (pyd (sgD q)) = decide (p = q) := by
  obtain ⟨a, l⟩ := p
  obtain ⟨b, m⟩ := q
  rw [pyd_sg, pyd_sg]
  simp [PyData.eqv, PyData.eqvAll, PySem.W.eqv_all_cons, ints_eqvS, Bool.beq_eq_decide_eq]
theorem any_sg (p : Stg) (ks : List Stg) : ((ks.map sgD).any fun z => PyData.eqv (pyd z) (pyd (sgD p))) = decide (p ∈ ks) := by
  induction ks with
  | nil => simp
  | cons q ks ih =>
    rw [List.map_cons, List.any_cons, ih, eqv_sg]
    by_cases h1 : q = p
    · simp [h1]
    · have h2 : ¬ p = q := fun e => h1 e.symm
      simp [h1, h2]
def preStL : List D → Prop := fun ds => ∃ (r : RdT) (a : Nat) (l : List Int), ds = [specD r, stgD (a : Int) l] ∧ GoodRd r ∧ a < r.ss.length ∧ Live (partsOf r.ss) l
def postStL : List D → D → Prop := fun ds d => ∃ (r : RdT) (a : Nat) (l : List Int) (s : StT), ds = [specD r, stgD (a : Int) l] ∧ r.ss[a]? = some s ∧ d = .lst ((sortS (stepsL r s l)).map sgD)
theorem lawT_len (s : StT) (t : Int) (l : List Int) (ms : List Int) (ks : List Stg) : (ms.foldl (lawF s t l) ks).length ≤ ks.length + ms.length := by
  rw [lawT_fold]
  have := thin_len s t (ms.map (lawSub l)) ks
  rw [List.length_map] at this
  exact this
theorem ok_steps {P : Program} {w : World} {K : PySem.W.Frag} {mg : Str → Option Value} {base : Heap} (T : Txt K mg) : FnOk P w K mg base CX0 4 T.f_steps T.fd_steps ["_law_spec_here", "_law_standing_z"] (spD K preStL postStL) := by
  refine T.F_steps.ok sc_steps (spD_len fun ds ⟨r, a, l, e, _⟩ => by rw [e]; rfl) (fun cdv A outer s H vs Q E hr h => ?_)
  refine ⟨_, (pss_cons (ps_asg (pv 1) (pgTup K (n := 2) rfl (pgs_cons (pg_name (i := 2) sc_steps.nd rfl (Or.inl rfl)) (pgs_cons (pg_name (i := 3) sc_steps.nd rfl (Or.inl rfl)) pgs_nil))))
    (pss_cons (ps_asg (pe_ix (ixL K) (pe_ix (ixT K) (pv 0) pe_int (fun _ _ => rfl)) (pv 2) (fun _ _ => rfl)) (pgTup K (n := 4) rfl (pgs_cons (pg_name (i := 4) sc_steps.nd rfl (Or.inl rfl)) (pgs_cons (pg_name (i := 5) sc_steps.nd rfl (Or.inr rfl)) (pgs_cons (pg_name (i := 6) sc_steps.nd rfl (Or.inl rfl)) (pgs_cons (pg_name (i := 7) sc_steps.nd rfl (Or.inl rfl)) pgs_nil))))))
    (pss_cons (ps_set (i := 8) sc_steps.nd rfl (Or.inl rfl) (pe_lst pa_nil))
    (pss_cons (ps_if (PW.pt (pw_or (pt_cmpR op_eq (pe_ix (ixT K) (pv 0) pe_int (fun _ _ => rfl)) pe_str (nomark _)) (pw_or1 (pt_cmpR (opEqD K hr.units) (pv 3) (pe_tup pa_nil) (nomark _))))) (pss_one (ps_ret (pe_lst pa_nil))) pss_nil)
    (pss_cons (ps_if (PW.pt (pw_and (pt_cmpR op_notN (pv 6) pe_non (nomark _)) (pw_and1 (pt_cmpR op_ge (pe_callB (callSum K) (by rfl) T.b_sum (by decide +kernel) (pa_cons (pe_lc (own := [("_law_part", 11)]) rfl sc_steps.nd (piT K (pv 3)) (blkOk_by (N := N_steps) (sc := defScope s_steps) (by decide +kernel)) (fun _ _ _ _ _ => (pg_name (i := 11) sc_steps.nd rfl (Or.inl rfl))) (fun _ _ _ _ _ => pts_nil) (fun _ _ _ _ _ => (pe_ix (ixT K) (pv 5) (pv 11) (fun _ _ => rfl)))) pa_nil)) (pv 4) (nomark _))))) (pss_one (ps_expr (pe_bm PySem.F.plainAttrs_list PySem.F.slot_list_append PySem.F.type_list_append (mt_append) (pv 8) (pa_cons (pe_tup (pa_cons (pv 6) (pa_cons (pv 3) pa_nil))) pa_nil)))) pss_nil)
    (pss_cons (ps_for PassesOwn.never rfl (pi_range1 (by rfl) T.b_range (pa_cons (pe_ifExp (PW.pt (pw_and (pt_cmpR op_notN (pv 7) pe_non (nomark _)) (pw_and1 (pt_cmpR op_gt (pv 4) pe_int (nomark _))))) pe_int pe_int) pa_nil)) (pg_name (i := 9) sc_steps.nd rfl (Or.inr rfl))
      (pss_cons (ps_set (i := 10) sc_steps.nd rfl (Or.inl rfl) (pe_callTy (callTuple K) (by rfl) T.b_tuple (by decide +kernel) (pa_cons (pe_lc (own := [("_law_part", 11)]) rfl sc_steps.nd (piT K (pv 3)) (blkOk_by (N := N_steps) (sc := defScope s_steps) (by decide +kernel)) (fun _ _ _ _ _ => (pg_name (i := 11) sc_steps.nd rfl (Or.inl rfl))) (fun _ _ _ _ _ => (pts_one (pt_cmpR op_eq (pe_op op_mod (pe_callTy call_int1 (by rfl) T.b_int (by decide +kernel) (pa_cons (pe_op op_fdiv (pv 9) (pe_ix (ixL K) (pe_lst (pa_cons pe_int (pa_cons pe_int (pa_cons pe_int (pa_cons pe_int pa_nil))))) (pv 11) (fun _ _ => rfl))) pa_nil)) pe_int) pe_int (nomark _)))) (fun _ _ _ _ _ => (pv 11))) pa_nil)))
      (pss_one (ps_if (PW.pt (pw_and (pt_cmpR op_lt (pe_callB (callSum K) (by rfl) T.b_sum (by decide +kernel) (pa_cons (pe_lc (own := [("_law_part", 11)]) rfl sc_steps.nd (piT K (pv 10)) (blkOk_by (N := N_steps) (sc := defScope s_steps) (by decide +kernel)) (fun _ _ _ _ _ => (pg_name (i := 11) sc_steps.nd rfl (Or.inl rfl))) (fun _ _ _ _ _ => pts_nil) (fun _ _ _ _ _ => (pe_ix (ixT K) (pv 5) (pv 11) (fun _ _ => rfl)))) pa_nil)) (pv 4) (nomark _)) (pw_and1 (pt_cmpR ((PfJ.opNotInD K (units65 hr))) (pe_tup (pa_cons (pv 7) (pa_cons (pv 10) pa_nil))) (pv 8) (by with_unfolding_all rfl))))) (pss_one (ps_expr (pe_bm PySem.F.plainAttrs_list PySem.F.slot_list_append PySem.F.type_list_append (mt_append) (pv 8) (pa_cons (pe_tup (pa_cons (pv 7) (pa_cons (pv 10) pa_nil))) pa_nil)))) pss_nil))))
    (pss_one (ps_ret (pe_callB (cr_sortA K hr.units) (by rfl) T.b_sorted (by decide +kernel) (pa_cons (pv 8) pa_nil)))))))))), ?_⟩
  refine enterD h fun M ds pre _ => ?_
  obtain ⟨r, a, l, rfl, g, ha, hl⟩ := pre
  have p4 := g.ss.p4
  have hll := hl.len
  obtain ⟨s, hs⟩ : ∃ s, r.ss[a]? = some s := ⟨r.ss[a], by simp [ha]⟩
  have gs := g.ss.st s (List.mem_of_getElem? hs)
  have hal : ∀ p ∈ l, 0 ≤ p ∧ p < (s.2.1.length : Int) := fun p hp => by
    have := hl.bd p hp
    rw [gs.al]
    exact this
  have hsa : (stsD r.ss)[a]? = some (stD s) := by
    unfold stsD
    rw [List.getElem?_map, hs]
    rfl
  refine do_seq (do_asg (js := [2, 3]) (ev_var (d := stgD (a : Int) l) rfl (tg_tup rfl (tgs_cons (js := [2]) (ks := [3]) (tg_name (tgs_cons (js := [3]) (ks := []) (tg_name (tgs_nil ?_))))))))
  refine do_seq (do_asg (js := [4, 5, 6, 7]) (ev_op (ev_op (ev_var (d := specD r) rfl (ev_int (od_ixT (d := .lst (stsD r.ss)) rfl (ev_var (d := .int (a : Int)) rfl (od_ixL (d := stD s) (atI_nat hsa) (tg_tup rfl ?_)))))))))
  refine tgs_cons (js := [4]) (ks := [5, 6, 7]) (tg_name (tgs_cons (js := [5]) (ks := [6, 7]) (tg_name (tgs_cons (js := [6]) (ks := [7]) (tg_name (tgs_cons (js := [7]) (ks := []) (tg_name (tgs_nil ?_))))))))
  refine do_seq (do_own (en_lst (ea_nil ⟨by simp, fun p => ?_⟩)))
  let st : List Stg → SD → SD → SD → List SD := fun ks x y z => [.dat (specD r), .dat (stgD (a : Int) l), .dat (.int (a : Int)), .dat (.tup (l.map .int)), .dat (.int s.1), .dat (.tup (s.2.1.map .int)), .dat (optD s.2.2.1), .dat (optD s.2.2.2), .own p (.lst (ks.map sgD)), x, y, z]
  show Do _ _ (st [] .un .un .un) _
  refine do_seq (do_ifV (vt_or (vt_test (v_eqS (v_ixT (z := .str r.m) rfl (v_var (x := specD r) rfl) (ev_int rfl)) (ev_str rfl))) (vt_test (b := decide (l = [])) ?_)) (fun h0 => ?_) (fun h0 => do_next ?_))
  · refine ev_op (ev_var (d := .tup (l.map .int)) rfl (ev_tup (ea_nil ⟨by simp, od_eqD (by simp only [plainD]; exact plainL_intsS l) (by simp [plainD, plainL]) (shaped_intsT l) (shaped_intsT []) ?_⟩)))
    show D.bl _ = D.bl _
    congr 1
    have : PyData.eqv (pyd (.tup (l.map D.int))) (pyd (.tup (([] : List Int).map D.int))) = decide (l = []) := by
      have h := ints_eqvS l []
      simp only [List.map_nil] at h
      simpa [pyd, pydL_intsS, pydL, PyData.eqv] using h
    exact this
  · refine do_ret (EvN.ev (en_lst (ea_nil ⟨by simp, r, a, l, s, rfl, hs, ?_⟩)))
    have : r.m = "from" ∨ l = [] := by
      rw [Bool.or_eq_true, decide_eq_true_eq, decide_eq_true_eq] at h0
      exact h0
    unfold stepsL
    rw [if_pos this]
    simp [sortS]
  have h0' : ¬ (r.m = "from" ∨ l = []) := by
    rw [Bool.or_eq_false_iff, decide_eq_false_iff_not, decide_eq_false_iff_not] at h0
    rintro (h | h)
    · exact h0.1 h
    · exact h0.2 h
  refine do_cut (fun δ' => δ' = st (baseK s l) .un .un .un) (do_ifV (vt_and (vt_test (v_notN (v_var (x := optD s.2.2.1) rfl))) (vt_test (v_cmp (i := askSum s.2.1 l) ?_ (v_var (x := .int s.1) rfl)))) (fun hb => ?_) (fun hb => do_next ?_)) ?_
  · refine ev_cb (ea_cons (EvN.ev ?_))
    refine en_lc (js := [11]) (PX := fun x => x = l.map .int) (it_tup (ev_var rfl ⟨_, rfl, rfl⟩)) (fun x e => by rw [e, List.length_map]; omega) (by decide) (fun _ i acc => acc = ((l.take i).map fun p => s.2.1.getD p.toNat 0).map D.int) (fun _ _ => rfl) ?_ ?_
    · rintro x i d acc rfl hi rfl
      obtain ⟨p, hp, rfl⟩ := getInt hi
      refine tg_name (et_yes ⟨fun _ => ?_, fun h => nomatch h⟩)
      refine ev_op (ev_var (d := .tup (s.2.1.map .int)) rfl (ev_var rfl (od_ixT (ask_atL hal hp) ?_)))
      rw [List.take_succ, hp]
      simp
    · rintro x ds rfl rfl
      rw [List.length_map, List.take_length]
      exact ea_nil (cd_sum rfl)
  · rw [Bool.and_eq_true] at hb
    obtain ⟨f, hf⟩ : ∃ f, s.2.2.1 = some f := by
      cases z : s.2.2.1 with
      | none => rw [z] at hb; cases hb.1
      | some f => exact ⟨f, rfl⟩
    have hbk : baseK s l = [(f, l)] := by
      unfold baseK
      rw [hf]
      exact if_pos (of_decide_eq_true hb.2)
    refine do_append (i := 8) (p := p) (ds := []) rfl (by simp) (ev_tup (ea_cons (ev_var (d := .int f) (by show some (SD.dat (optD s.2.2.1)) = _; rw [hf]; rfl) (ea_cons (ev_var (d := .tup (l.map .int)) rfl (ea_nil ⟨by simp, ?_⟩))))))
    rw [hbk]
    rfl
  · show _ = st (baseK s l) .un .un .un
    have : baseK s l = [] := by
      unfold baseK
      cases z : s.2.2.1 with
      | none => rfl
      | some f =>
        rw [z] at hb
        have hb : (true && decide (askSum s.2.1 l ≥ s.1)) = false := hb
        rw [Bool.true_and, decide_eq_false_iff_not] at hb
        exact if_neg hb
    rw [this]
  rintro δ' rfl
  have bl := base_len s l
  refine do_cut (fun δ' => ∃ x y z, δ' = st (lawT s l (baseK s l) (lawMany s)) x y z) (do_for (js := [9]) (PX := fun x => x = upto 0 (lawMany s)) (it_range1 (ea_cons (ev_if (EvT.val (vt_and (vt_test (v_notN (v_var (x := optD s.2.2.2) rfl))) (vt_test (v_cmp (v_var (x := .int s.1) rfl) (ev_int rfl)))) ⟨fun hb => ev_int (ea_nil ⟨16, rfl, by decide, by decide, ?_⟩), fun hb => ev_int (ea_nil ⟨0, rfl, by decide, by decide, ?_⟩)⟩)))) (fun _ i δ => ∃ x y z, δ = st (lawT s l (baseK s l) i) x y z) (fun _ _ => ⟨.un, .un, .un, ?_⟩) ?_ ?_) ?_
  · rw [Bool.and_eq_true] at hb
    have : lawMany s = 16 := by
      unfold lawMany
      cases z : s.2.2.2 with
      | none => rw [z] at hb; cases hb.1
      | some f => exact if_pos (of_decide_eq_true hb.2)
    rw [this]
    rfl
  · have : lawMany s = 0 := by
      unfold lawMany
      cases z : s.2.2.2 with
      | none => rfl
      | some t =>
        rw [z] at hb
        have hb : (true && decide (s.1 > 1)) = false := hb
        rw [Bool.true_and, decide_eq_false_iff_not] at hb
        exact if_neg hb
    rw [this]
    rfl
  · have : lawT s l (baseK s l) 0 = baseK s l := by
      unfold lawT
      split <;> rfl
    rw [this]
  · rintro x i d δ rfl hi ⟨x', y', z', rfl⟩
    obtain ⟨hlt, rfl⟩ := upto_get hi
    obtain ⟨t, ht⟩ : ∃ t, s.2.2.2 = some t := by
      cases z : s.2.2.2 with
      | none => unfold lawMany at hlt; rw [z] at hlt; cases hlt
      | some f => exact ⟨f, rfl⟩
    have h16 : i < 16 := by
      unfold lawMany at hlt
      rw [ht] at hlt
      have : (if 1 < s.1 then 16 else 0) ≤ 16 := by split <;> omega
      exact Nat.lt_of_lt_of_le hlt this
    have lt : ∀ n, lawT s l (baseK s l) n = ((List.range n).map fun i : Nat => (i : Int)).foldl (lawF s t l) (baseK s l) := fun n => by
      unfold lawT
      rw [ht]
    have ln := lawT_len s t l ((List.range i).map fun i : Nat => (i : Int)) (baseK s l)
    rw [← lt, List.length_map, List.length_range] at ln
    have nx : lawT s l (baseK s l) (i + 1) = lawF s t l (lawT s l (baseK s l) i) (i : Int) := by
      rw [lt, lt, List.range_succ, List.map_append, List.foldl_append]
      rfl
    generalize lawT s l (baseK s l) i = ks at ln nx ⊢
    refine tg_name (do_seq (do_set (ev_cb (ea_cons (EvN.ev ?_)))))
    refine en_lc (js := [11]) (PX := fun x => x = l.map .int) (it_tup (ev_var rfl ⟨_, rfl, rfl⟩)) (fun x e => by rw [e, List.length_map]; omega) (by decide) (fun _ j acc => acc = ((l.take j).filter fun p => bitI (i : Int) p).map D.int) (fun _ _ => rfl) ?_ ?_
    · rintro x j d acc rfl hj rfl
      obtain ⟨q, hq, rfl⟩ := getInt hj
      have hb := hl.bd q (List.mem_of_getElem? hq)
      obtain ⟨k1, k2, k3⟩ := pow_at hb.1 (by omega)
      refine tg_name (et_test (ev_op (ev_op (ev_cb (ea_cons (ev_op (ev_var (d := .int ((0 : Int) + (i : Nat))) rfl (ev_op (ev_lst (ea_cons (ev_int (ea_cons (ev_int (ea_cons (ev_int (ea_cons (ev_int (ea_nil ⟨by simp, ev_var (d := .int q) rfl (od_ixL k1 (od_intC ⟨k2, k3⟩ (ea_nil (PfJ.cd_int1 (ev_int (od_intC (by decide) (ev_int (od_eq_int ⟨_, rfl, fun hb => ?_, fun hb => ?_⟩))))))))⟩))))))))))))))))))
      · have e : bitI (i : Int) q = true := by
          have hb := hb
          rw [Int.zero_add] at hb
          exact hb
        refine ev_var rfl ?_
        rw [List.take_succ, hq, List.filter_append]
        simp [e]
      · have e : bitI (i : Int) q = false := by
          have hb := hb
          rw [Int.zero_add] at hb
          exact hb
        show _ = _
        rw [List.take_succ, hq, List.filter_append]
        simp [e]
    · rintro x ds rfl rfl
      rw [List.length_map, List.take_length]
      refine ea_nil (cd_tupL ?_)
      have hx : ∀ p ∈ lawSub l (i : Int), p ∈ l := fun p hp => (List.mem_filter.mp hp).1
      have hxl : (lawSub l (i : Int)).length ≤ 4 := Nat.le_trans (List.length_filter_le _ _) (by omega)
      show Do _ _ (st ks (.dat (.int ((0 : Int) + (i : Nat)))) (.dat (tupI (lawSub l (i : Int)))) z') _
      refine do_ifV (b := decide (askSum s.2.1 (lawSub l (i : Int)) < s.1) && !decide ((t, lawSub l (i : Int)) ∈ ks)) (vt_and (vt_test (v_cmp (i := askSum s.2.1 (lawSub l (i : Int))) ?_ (v_var (x := .int s.1) rfl))) (vt_test ?_)) (fun hb => ?_) (fun hb => do_next ⟨.dat (.int ((0 : Int) + (i : Nat))), .dat (tupI (lawSub l (i : Int))), z', ?_⟩)
      · refine ev_cb (ea_cons (EvN.ev ?_))
        refine en_lc (js := [11]) (PX := fun x => x = (lawSub l (i : Int)).map .int) (it_tup (ev_var (d := tupI (lawSub l (i : Int))) rfl ⟨_, rfl, rfl⟩)) (fun x e => by rw [e, List.length_map]; omega) (by decide) (fun _ j acc => acc = (((lawSub l (i : Int)).take j).map fun p => s.2.1.getD p.toNat 0).map D.int) (fun _ _ => rfl) ?_ ?_
        · rintro x j d acc rfl hj rfl
          obtain ⟨q, hq, rfl⟩ := getInt hj
          refine tg_name (et_yes ⟨fun _ => ?_, fun h => nomatch h⟩)
          refine ev_op (ev_var (d := .tup (s.2.1.map .int)) rfl (ev_var rfl (od_ixT (ask_atL (fun p hp => hal p (hx p hp)) hq) ?_)))
          rw [List.take_succ, hq]
          simp
        · rintro x ds rfl rfl
          rw [List.length_map, List.take_length]
          exact ea_nil (cd_sum rfl)
      · refine PfJ.ev_ninDO (i := 8) (p := p) (ds := ks.map sgD) rfl (plainL_sg ks) (shaped_sgs ks) (ev_tup (ea_cons (ev_var (d := .int t) (by show some (SD.dat (optD s.2.2.2)) = _; rw [ht]; rfl) (ea_cons (ev_var (d := tupI (lawSub l (i : Int))) rfl (ea_nil ⟨by simp, ?_⟩))))))
        exact ⟨(by have h := (sok_sg [(t, lawSub l (i : Int))]).pl; simp only [List.map_cons, List.map_nil, plainL, Bool.and_true] at h; exact h), shaped_sg (t, lawSub l (i : Int)), by rw [← any_sg]; rfl⟩
      · rw [Bool.and_eq_true] at hb
        have e : lawF s t l ks (i : Int) = ks ++ [(t, lawSub l (i : Int))] := if_pos ⟨of_decide_eq_true hb.1, by simpa using hb.2⟩
        refine do_append (i := 8) (p := p) (ds := ks.map sgD) rfl (by rw [List.length_map]; omega) (ev_tup (ea_cons (ev_var (d := .int t) (by show some (SD.dat (optD s.2.2.2)) = _; rw [ht]; rfl) (ea_cons (ev_var (d := tupI (lawSub l (i : Int))) rfl (ea_nil ⟨by simp, .dat (.int ((0 : Int) + (i : Nat))), .dat (tupI (lawSub l (i : Int))), z', ?_⟩))))))
        rw [nx, e]
        simp only [st, List.map_append]
        rfl
      · have e : lawF s t l ks (i : Int) = ks := if_neg fun h => by
          rw [decide_eq_true h.1, decide_eq_false h.2] at hb
          cases hb
        rw [nx, e]
  · rintro x δ rfl ⟨x', y', z', rfl⟩
    rw [upto_len]
    exact ⟨x', y', z', rfl⟩
  rintro δ' ⟨x', y', z', rfl⟩
  refine do_freeze (i := 8) rfl (do_ret (EvN.ev (en_sorted (ev_var (d := .lst ((lawT s l (baseK s l) (lawMany s)).map sgD)) rfl ⟨_, .inl rfl, sok_sg _, r, a, l, s, rfl, hs, ?_⟩))))
  rw [sortD_sg]
  unfold stepsL
  rw [if_neg h0']

end Pf

set_option maxHeartbeats 16000000
namespace Pf
open PySem L2 PfL RZ
local macro_rules | `(tactic| walk_at "ev") => `(tactic| first
  | ((with_reducible refine' ev_var ?h ?_); (case h => rfl))
  | with_reducible refine ev_int ?_
  | with_reducible refine ev_bl ?_
  | with_reducible refine ev_str ?_
  | with_reducible refine ev_non ?_
  | with_reducible refine ev_ty ?_
  | with_reducible refine ev_op ?_
  | with_reducible refine ev_un ?_
  | with_reducible refine ev_chain ?_
  | with_reducible refine ev_if ?_
  | with_reducible refine ev_and ?_
  | with_reducible refine ev_or ?_
  | with_reducible refine ev_not ?_
  | with_reducible refine ev_lst ?_
  | with_reducible refine ev_tup ?_
  | with_reducible refine ea_nil ?_
  | with_reducible refine ea_cons ?_
  | with_reducible refine ev_cb ?_
  | with_reducible refine et_test ?_
  | with_reducible refine et_B ?_
  | with_reducible refine et_and ?_
  | with_reducible refine et_or ?_
  | with_reducible refine et_not ?_
  | with_reducible refine et_yes ?_
  | with_reducible refine eo_none ?_
  | with_reducible refine eo_some ?_
  | with_reducible refine ev_slS ?_
  | with_reducible refine od_int ?_
  | with_reducible refine od_bl ?_
  | with_reducible refine od_eq_int ?_
  | with_reducible refine od_ne_int ?_
  | with_reducible refine od_eq_bl ?_
  | with_reducible refine od_ne_bl ?_
  | with_reducible refine od_eq_str ?_
  | with_reducible refine od_ne_str ?_
  | with_reducible refine od_leS ?_
  | with_reducible refine ud_isN ?_
  | with_reducible refine ud_notN ?_
  | with_reducible refine do_seq ?_
  | with_reducible refine do_set ?_
  | with_reducible refine do_ret ?_
  | with_reducible refine do_retN ?_
  | with_reducible refine do_if ?_
  | with_reducible refine do_next ?_
  | with_reducible refine tg_name ?_
  | with_reducible refine tgs_nil ?_
  | with_reducible refine tgs_cons ?_)
/-! ### what is no standing -/
def postNo : List D → D → Prop := fun ds d => ∃ r : RdT, ds = [specD r] ∧ okZ d ∧ isStg r d = false
theorem ok_no_standing {P : Program} {w : World} {K : PySem.W.Frag} {mg : Str → Option Value} {base : Heap} (T : Txt K mg) : FnOk P w K mg base CX0 6 T.f_no_standing T.fd_no_standing ["_law_bag", "_law_spec_here"] (spB K preSome postNo) := by
  refine T.F_no_standing.ok sc_no_standing (spB_len fun ds ⟨r, e, _⟩ => by rw [e]; rfl) (fun cdv A outer s H vs Q E hr h => ?_)
  refine ⟨_, (pss_cons (ps_par (i := 2) (j := 3) rfl sc_no_standing.nd rfl rfl (by decide) rfl rfl (pa_cons (pe_callB (callLen K) (by rfl) T.b_len (by decide +kernel) (pa_cons (pe_ix (ixT K) (pv 1) pe_int (fun _ _ => rfl)) pa_nil)) (pa_cons (pe_callB (callLen K) (by rfl) T.b_len (by decide +kernel) (pa_cons (pe_ix (ixT K) (pe_ix (ixL K) (pe_ix (ixT K) (pv 1) pe_int (fun _ _ => rfl)) pe_int (fun _ _ => rfl)) pe_int (fun _ _ => rfl)) pa_nil)) pa_nil)) rfl)
    (pss_one (ps_ret (pe_call (ok_of T) (hr.mono (by decide)) rfl T.g_of T.k_of T.bd_of .nil pass0 (pa_cons (pv 0) (pa_cons (pe_lst (pa_cons pe_non (pa_cons pe_int (pa_cons (pe_tup pa_nil) (pa_cons (pe_tup (pa_cons pe_int pa_nil)) (pa_cons (pe_lst (pa_cons pe_int (pa_cons (pe_tup (pa_cons pe_int pa_nil)) pa_nil))) (pa_cons (pe_tup (pa_cons pe_int (pa_cons (pe_tup (pa_cons pe_int pa_nil)) (pa_cons pe_int pa_nil)))) (pa_cons (pe_tup (pa_cons (pv 2) (pa_cons (pe_tup (pa_cons pe_int pa_nil)) pa_nil))) (pa_cons (pe_tup (pa_cons (pe_op op_sub pe_int pe_int) (pa_cons (pe_tup (pa_cons pe_int pa_nil)) pa_nil))) (pa_cons (pe_tup (pa_cons pe_non (pa_cons (pe_tup (pa_cons pe_int pa_nil)) pa_nil))) (pa_cons (pe_tup (pa_cons pe_bl (pa_cons (pe_tup pa_nil) pa_nil))) (pa_cons (pe_tup (pa_cons pe_int (pa_cons (pe_lst (pa_cons pe_int pa_nil)) pa_nil))) (pa_cons (pe_tup (pa_cons pe_int (pa_cons pe_int pa_nil))) (pa_cons (pe_tup (pa_cons pe_int (pa_cons (pe_tup (pa_cons (pv 3) pa_nil)) pa_nil))) (pa_cons (pe_tup (pa_cons pe_int (pa_cons (pe_tup (pa_cons pe_int (pa_cons pe_int pa_nil))) pa_nil))) (pa_cons (pe_tup (pa_cons pe_int (pa_cons (pe_tup (pa_cons (pe_op op_sub pe_int pe_int) pa_nil)) pa_nil))) (pa_cons (pe_tup (pa_cons pe_int (pa_cons pe_non pa_nil))) (pa_cons (pe_tup (pa_cons pe_int (pa_cons (pe_tup (pa_cons pe_bl pa_nil)) pa_nil))) (pa_cons (pe_tup (pa_cons pe_str (pa_cons (pe_tup pa_nil) pa_nil))) (pa_cons (pe_tup (pa_cons pe_int (pa_cons (pe_tup (pa_cons pe_int (pa_cons pe_int pa_nil))) pa_nil))) (pa_cons (pe_tup (pa_cons (pe_tup pa_nil) (pa_cons pe_int pa_nil))) pa_nil))))))))))))))))))))) pa_nil)))))), ?_⟩
  refine enterB h fun M b c ds pre _ => ?_
  obtain ⟨r, rfl, g⟩ := pre
  have n0 := g.ss.n0
  have n6 := g.ss.n6
  have p4 := g.ss.p4
  obtain ⟨s0, ss', hss, hl⟩ := first_st g.ss
  refine do_seq (do_par2 (Ev.val (v_len (k := r.ss.length) (by simp [lenD, stsD_len]) (by omega) (v_ixT (z := .lst (stsD r.ss)) rfl (v_var (x := specD r) rfl) (ev_int rfl))) (Ev.val (v := .int (partsOf r.ss : Int)) (v_len (k := partsOf r.ss) (by simp [lenD, hl]) (by omega) (v_ixT (z := .tup (s0.2.1.map .int)) rfl (v_ixL (z := stD s0) (by rw [hss]; exact atI_nat (j := 0) (by simp [stsD])) (v_ixT (z := .lst (stsD r.ss)) rfl (v_var (x := specD r) rfl) (ev_int rfl)) (ev_int rfl)) (ev_int rfl))) ?_)))
  show Do _ _ [.bag, .dat (specD r), .dat (.int (r.ss.length : Int)), .dat (.int (partsOf r.ss : Int))] _
  have nn : isNum (.int (r.ss.length : Int)) 0 ((r.ss.length : Int) - 1) = false := by
    simp only [isNum, Bool.and_eq_false_iff, decide_eq_false_iff_not]
    omega
  have pp : isNum (.int (partsOf r.ss : Int)) 0 ((partsOf r.ss : Int) - 1) = false := by
    simp only [isNum, Bool.and_eq_false_iff, decide_eq_false_iff_not]
    omega
  generalize hn : (r.ss.length : Int) = n at nn ⊢
  generalize hp : (partsOf r.ss : Int) = p at pp ⊢
  have two : ∀ a l, isStg r (.tup [a, l]) = (isNum a 0 (n - 1) && liveD l p) := fun a l => by rw [← hn, ← hp]; rfl
  have l1 : ∀ z, isNum z 0 (p - 1) = false → liveD (.tup [z]) p = false := fun z hz => by simp [liveD, hz]
  have l2 : ∀ zs, ascD zs = false → liveD (.tup zs) p = false := fun zs hz => by simp [liveD, hz]
  have sm : ∀ {d : D}, plD d = true → Pf.dep d ≤ 4 → (∀ a l, d = .tup [a, l] → lenT l < 63) → isStg r d = false → postNo [specD r] d := fun h1 h2 h3 h4 => ⟨r, rfl, ⟨h1, h2, h3⟩, h4⟩
  refine do_ret (ev_ofL rfl rfl (ea_cons ?_))
  repeat (first | walk_at "ev" | refine ⟨by simp, ?_⟩)
  refine ⟨_, rfl, by simp, by simp, fun d hd => ?_⟩
  simp only [List.mem_cons, List.not_mem_nil, or_false] at hd
  rcases hd with rfl | rfl | rfl | rfl | rfl | rfl | rfl | rfl | rfl | rfl | rfl | rfl | rfl | rfl | rfl | rfl | rfl | rfl | rfl | rfl
  all_goals refine sm (by simp [plD, plL]) (by simp [Pf.dep, depL]) (fun a l e => by first | (cases e; simp [lenT]) | cases e) ?_
  all_goals first
    | rfl
    | (rw [two, nn]; rfl)
    | (rw [two, l1 _ pp]; exact Bool.and_false _)
    | (rw [two, l2 _ (by decide)]; exact Bool.and_false _)
    | (rw [two]; simp [isNum, liveD])

end Pf

set_option maxHeartbeats 16000000
namespace Pf
open PySem L2 PfL RZ
local macro_rules | `(tactic| walk_at "ev") => `(tactic| first
  | ((with_reducible refine' ev_var ?h ?_); (case h => rfl))
  | with_reducible refine ev_int ?_
  | with_reducible refine ev_bl ?_
  | with_reducible refine ev_str ?_
  | with_reducible refine ev_non ?_
  | with_reducible refine ev_ty ?_
  | with_reducible refine ev_op ?_
  | with_reducible refine ev_un ?_
  | with_reducible refine ev_chain ?_
  | with_reducible refine ev_if ?_
  | with_reducible refine ev_and ?_
  | with_reducible refine ev_or ?_
  | with_reducible refine ev_not ?_
  | with_reducible refine ev_lst ?_
  | with_reducible refine ev_tup ?_
  | with_reducible refine ea_nil ?_
  | with_reducible refine ea_cons ?_
  | with_reducible refine ev_cb ?_
  | with_reducible refine et_test ?_
  | with_reducible refine et_B ?_
  | with_reducible refine et_and ?_
  | with_reducible refine et_or ?_
  | with_reducible refine et_not ?_
  | with_reducible refine et_yes ?_
  | with_reducible refine eo_none ?_
  | with_reducible refine eo_some ?_
  | with_reducible refine ev_slS ?_
  | with_reducible refine od_int ?_
  | with_reducible refine od_bl ?_
  | with_reducible refine od_eq_int ?_
  | with_reducible refine od_ne_int ?_
  | with_reducible refine od_eq_bl ?_
  | with_reducible refine od_ne_bl ?_
  | with_reducible refine od_eq_str ?_
  | with_reducible refine od_ne_str ?_
  | with_reducible refine od_leS ?_
  | with_reducible refine ud_isN ?_
  | with_reducible refine ud_notN ?_
  | with_reducible refine do_seq ?_
  | with_reducible refine do_set ?_
  | with_reducible refine do_ret ?_
  | with_reducible refine do_retN ?_
  | with_reducible refine do_if ?_
  | with_reducible refine do_next ?_
  | with_reducible refine tg_name ?_
  | with_reducible refine tgs_nil ?_
  | with_reducible refine tgs_cons ?_)
/-! ### into the law that makes lambdas -/
def slotsT (N : List Str) : List SD := .un :: .bag :: List.replicate (N.length - 2) .un
theorem lawInT {K : PySem.W.Frag} {N : List Str} {vs : List V} {H : Hp} {t : TS} {Q : VK} {E E' : XK} {P : Addr} {q : Str} (h : spLawT K P vs H Q E) (hN : 2 ≤ N.length)
    (hb : ∀ (b c : Addr) (H1 : Hp) (M0 : Addr → Bool) (E : XK), Do ⟨K, some b, M0, H1, E, c, [(P, q)]⟩ t (slotsT N) { nx := fun _ => False, rt := fun d => d = .bl true }) :
    tSeq (tAsg (tCall (spOpen K) [] E' (tCons (tVar 0) tNil)) (gName 1)) t { nx := fun _ H' => Q .non H', rt := Q } (L2.start N vs) H := by
  obtain ⟨a, ns, rfl, hs, hn, hP, qq⟩ := h
  have hl : (L2.start N [V.ref a]).length = N.length := by
    unfold L2.start
    rw [List.length_append, List.length_replicate, List.length_map, List.length_cons, List.length_nil]
    omega
  refine ⟨.ref a, rfl, a, ns, rfl, hs, hn, fun b c H1 hb0 s1 ba => ?_⟩
  show t { nx := fun _ H' => Q .non H', rt := Q } ((L2.start N [V.ref a]).set 1 (some (.ref b))) H1
  refine lawDoT (δ := slotsT N) ba (LamX.TabS.nil (s1 _ _ hP)) ?_ ?_ (fun i x h => ?_) (hb b c H1) qq
  · unfold slotsT
    rw [List.length_set, hl, List.length_cons, List.length_cons, List.length_replicate]
    omega
  · rw [List.getElem?_set_self (by rw [hl]; omega)]
  · unfold slotsT at h
    match i, h with
    | 0, h => exact .inl (Option.some.inj h).symm
    | 1, h => exact .inr ⟨rfl, (Option.some.inj h).symm⟩
    | i + 2, h => exact .inl (List.eq_of_mem_replicate (List.mem_of_getElem? h))
/-! slices of a list -/
theorem hj1 {δ : List SD} {a : Nat} {x : D} (h : δ[a]? = some (.dat x)) : ∀ j ∈ [a], ∃ d, δ[j]? = some (.dat d) := fun j hj => by
  rw [List.mem_singleton.mp hj]
  exact ⟨_, h⟩
theorem hj2 {δ : List SD} {a b : Nat} {x y : D} (h : δ[a]? = some (.dat x)) (g : δ[b]? = some (.dat y)) : ∀ j ∈ [a, b], ∃ d, δ[j]? = some (.dat d) := fun j hj => by
  rcases List.mem_cons.mp hj with rfl | hj
  · exact ⟨_, h⟩
  · exact hj1 g j hj
theorem outF_eq : ∀ {xs ds : List D}, OutF (xs.map fun x => (· = x)) ds → ds = xs
  | [], _, .nil => rfl
  | _ :: _, _, .cons h r => by rw [h, outF_eq r]
/-! ### the law -/
theorem err_of {K : PySem.W.Frag} {ct : List Value} {C : Addr} {f n : Str} {x : D} (ex : PySem.W.exmAny K (.ref C) ct = some true) (is : L2.ExcC K C) (no : ∀ f ∈ errNames, PySem.W.findIn K (.ref C) f = some none) (h : (("code" : Str) == f) = false) (hf : fieldOf n = some f) : ErrIs K ct C (gx f n x) n x := by
  refine ⟨ex, is, no, ?_, ?_⟩
  · unfold gx
    rw [List.lookup_cons, h]
    simp
  · rw [hf]
    show List.lookup f (gx f n x) = some x
    unfold gx
    rw [List.lookup_cons]
    simp
theorem e_stand {K : PySem.W.Frag} {mg : Str → Option Value} (T : Txt K mg) {x : D} : ErrIs K [.ref T.c_PartError, .ref T.c_Missing, .ref T.c_NothingLeft] T.c_InvalidStanding (gx "given" "InvalidStanding" x) "InvalidStanding" x := err_of T.ex_InvalidStanding T.xa_InvalidStanding.x.is T.xa_InvalidStanding.no (by decide) (by decide +kernel)
theorem pl_sg (p : Stg) (h : p.2.length ≤ 4) : plD (sgD p) = true := by
  have : plL (p.2.map D.int) = true := by
    have : ∀ l : List Int, plL (l.map D.int) = true := fun l => by
      induction l with
      | nil => simp [plL]
      | cons x l ih => simp [plL, plD, ih]
    exact this _
  simp [sgD, stgD, plD, plL, this]
  omega
theorem dep_sgL (ks : List Stg) : Pf.dep (.lst (ks.map sgD)) ≤ 6 := by
  have d0 : ∀ l : List Int, depL (l.map D.int) = 0 := fun l => by
    induction l with
    | nil => simp [depL]
    | cons x l ih => simp [depL, Pf.dep, ih]
  have d1 : ∀ p : Stg, Pf.dep (sgD p) ≤ 3 := fun p => by
    simp only [sgD, stgD, Pf.dep, depL, d0]
    omega
  have : depL (ks.map sgD) ≤ 3 := by
    induction ks with
    | nil => simp [depL]
    | cons p ks ih =>
      have := d1 p
      simp only [List.map_cons, depL]
      omega
  simp only [Pf.dep]
  omega
theorem pl_sgL {ks : List Stg} (h : ∀ p ∈ ks, p.2.length ≤ 4) (hl : ks.length ≤ 10000) : plD (.lst (ks.map sgD)) = true := by
  have : plL (ks.map sgD) = true := by
    clear hl
    induction ks with
    | nil => simp [plL]
    | cons p ks ih => simp only [List.map_cons, plL, pl_sg p (h p (by simp)), ih fun q hq => h q (List.mem_cons_of_mem _ hq), Bool.and_self]
  simp only [plD, this, Bool.and_true, List.length_map]
  exact decide_eq_true hl
theorem steps_mem {r : RdT} {s : StT} {l : List Int} {q : Stg} (h : q ∈ stepsP r s l) (hl : l.length ≤ 4) : q.2.length ≤ 4 := by
  have hb : ∀ q ∈ baseK s l, q.2.length ≤ 4 := fun q hq => by
    unfold baseK at hq
    split at hq
    · split at hq
      · rw [List.mem_singleton.mp hq]
        exact hl
      · cases hq
    · cases hq
  unfold stepsP at h
  split at h
  · cases h
  unfold thinK at h
  split at h
  · split at h
    · rcases (thin_mem s _ _ _).mp h with h | ⟨x, hx, _, rfl⟩
      · exact hb q h
      · exact Nat.le_trans (subs_mem hx).2 hl
    · exact hb q h
  · exact hb q h
theorem steps_len {r : RdT} {s : StT} {l : List Int} (hl : l.length ≤ 4) : (stepsP r s l).length ≤ 17 := by
  have hb := base_len s l
  unfold stepsP
  split
  · simp
  unfold thinK
  split
  · split
    · have := thin_len s (by assumption) (subs l) (baseK s l)
      have := subs_le hl
      omega
    · omega
  · omega
theorem okZ_stg {a : Nat} {l : List Int} (hl : l.length ≤ 4) : okZ (stgD (a : Int) l) := by
  refine ⟨pl_sg ((a : Int), l) hl, ?_, fun x y e => ?_⟩
  · have := dep_sgL [((a : Int), l)]
    have d0 : ∀ l : List Int, depL (l.map D.int) = 0 := fun l => by
      induction l with
      | nil => simp [depL]
      | cons x l ih => simp [depL, Pf.dep, ih]
    simp [stgD, Pf.dep, depL, d0]
  · simp only [stgD, D.tup.injEq, List.cons.injEq, and_true] at e
    rw [← e.2]
    simp only [lenT, List.length_map]
    omega
theorem stgD_inj {a a' : Nat} {l l' : List Int} (h : stgD (a : Int) l = stgD (a' : Int) l') : a = a' ∧ l = l' := by
  simp only [stgD, D.tup.injEq, List.cons.injEq, D.int.injEq, and_true] at h
  exact ⟨by omega, ints_inj h.2⟩
theorem ok_law {P : Program} {w : World} {K : PySem.W.Frag} {mg : Str → Option Value} {base : Heap} (T : Txt K mg) (TB : LamX.TabB base mg T.cL T.pL) : FnOk P w K mg base CX0 44 T.f_law T.fd_law ["_law_script"] (spLawT K T.pL) := by
  refine T.FC_law.ok sc_law (fun vs H Q E h => ?_) (fun A outer s H vs Q E hr h => ?_)
  · obtain ⟨a, ns, rfl, _⟩ := h
    rfl
  refine ⟨_, (pss_cons (ps_set (i := 1) sc_law.nd rfl (Or.inl rfl) (pe_call (ok_open T) (hr.mono (by decide)) rfl T.g_open T.k_open T.bd_open .nil pass0 (pa_cons (pv 0) pa_nil)))
    (pss_cons (ps_for PassesOwn.never rfl (pi_range1 (by rfl) T.b_range (pa_cons pe_int pa_nil)) (pg_name (i := 2) sc_law.nd rfl (Or.inl rfl))
      (pss_cons (ps_set (i := 3) sc_law.nd rfl (Or.inl rfl) (pe_op op_add pe_int (pe_call (ok_draw T) (hr.mono (by decide)) rfl T.g_draw T.k_draw T.bd_draw .nil pass0 (pa_cons (pv 1) (pa_cons pe_int pa_nil)))))
      (pss_cons (ps_set (i := 4) sc_law.nd rfl (Or.inl rfl) (pe_call (ok_any_spec T) (hr.mono (by decide)) rfl T.g_any_spec T.k_any_spec T.bd_any_spec .nil pass0 (pa_cons (pv 1) (pa_cons (pv 3) (pa_cons pe_int pa_nil)))))
      (pss_cons (ps_set (i := 5) sc_law.nd rfl (Or.inr rfl) (pe_call (ok_reader T) (hr.mono (by decide)) rfl T.g_reader T.k_reader T.bd_reader .nil pass0 (pa_cons (pv 4) pa_nil)))
      (pss_cons (ps_if (pt_not (pt_val (pe_call (ok_like T 6) (hr.mono (by decide)) rfl T.g_like T.k_like T.bd_like .nil pass0 (pa_cons (pe_callK0 (ok_first_standing T) (hr.mono (by decide)) rfl T.g_first_standing T.k_first_standing (kb_first_standing_reader T) pass0 (pk_cons (pv 5) pk_nil)) (pa_cons (pe_tup (pa_cons pe_int (pa_cons (pe_tupRg rfl (by rfl) T.b_tuple (prg_1 (by rfl) T.b_range (pv 3))) pa_nil))) pa_nil))))) (pss_one (ps_ret pe_bl)) pss_nil)
      (pss_cons (ps_for PassesOwn.never rfl (pi_range1 (by rfl) T.b_range (pa_cons pe_int pa_nil)) (pg_name (i := 6) sc_law.nd rfl (Or.inl rfl))
        (pss_cons (ps_set (i := 7) sc_law.nd rfl (Or.inl rfl) (pe_call (ok_some_standing T) (hr.mono (by decide)) rfl T.g_some_standing T.k_some_standing T.bd_some_standing .nil pass0 (pa_cons (pv 1) (pa_cons (pv 4) pa_nil))))
        (pss_cons (ps_if (pt_not (pt_val (pe_call (ok_like T 6) (hr.mono (by decide)) rfl T.g_like T.k_like T.bd_like .nil pass0 (pa_cons (pe_call (ok_p_steps T) (hr.mono (by decide)) rfl T.g_p_steps T.k_p_steps T.bd_p_steps .nil passN (pa_cons (pv 5) (pa_cons (pv 7) pa_nil))) (pa_cons (pe_call (ok_steps T) (hr.mono (by decide)) rfl T.g_steps T.k_steps T.bd_steps .nil pass0 (pa_cons (pv 4) (pa_cons (pv 7) pa_nil))) pa_nil))))) (pss_one (ps_ret pe_bl)) pss_nil)
        (pss_cons (ps_expr (pe_bm0 PySem.F.plainAttrs_list PySem.F.slot_list_clear PySem.F.type_list_clear (mt_clear) (pe_call (ok_p_steps T) (hr.mono (by decide)) rfl T.g_p_steps T.k_p_steps T.bd_p_steps .nil passN (pa_cons (pv 5) (pa_cons (pv 7) pa_nil)))))
        (pss_one (ps_if (pt_not (pt_val (pe_call (ok_like T 6) (hr.mono (by decide)) rfl T.g_like T.k_like T.bd_like .nil pass0 (pa_cons (pe_callK0 (ok_p_steps T) (hr.mono (by decide)) rfl T.g_p_steps T.k_p_steps (kb_p_steps_standing_reader T) passN (pk_cons (pv 7) (pk_cons (pv 5) pk_nil))) (pa_cons (pe_call (ok_steps T) (hr.mono (by decide)) rfl T.g_steps T.k_steps T.bd_steps .nil pass0 (pa_cons (pv 4) (pa_cons (pv 7) pa_nil))) pa_nil))))) (pss_one (ps_ret pe_bl)) pss_nil))))))
      (pss_cons (ps_set (i := 8) sc_law.nd rfl (Or.inr rfl) (pe_call (ok_no_standing T) (hr.mono (by decide)) rfl T.g_no_standing T.k_no_standing T.bd_no_standing .nil pass0 (pa_cons (pv 1) (pa_cons (pv 4) pa_nil))))
      (pss_cons (ps_set (i := 9) sc_law.nd rfl (Or.inl rfl) (PfL.pe_fzcall (ok_tries T 36) (hr.mono (by decide)) rfl T.g_tries T.k_tries T.bd_tries (fun _ _ _ => rfl) (law_knd (nodup_by (by kernel_rfl))) rfl rfl (pe_lst (pa_cons (PfL.pe_lam TB rfl PfL.Par.zero.lam (lam_free (by kernel_rfl))) (pa_cons (PfL.pe_lam TB rfl (PfL.Par.one _ _ _ _ _).lam (lam_free (by kernel_rfl))) pa_nil)))))
      (pss_one (ps_if (pt_not (pt_val (pe_call (ok_like T 6) (hr.mono (by decide)) rfl T.g_like T.k_like T.bd_like .nil pass0 (pa_cons (pv 9) (pa_cons (pe_op op_rep (pe_lst (pa_cons (pe_tup (pa_cons pe_str (pa_cons (pv 8) pa_nil))) pa_nil)) pe_int) pa_nil))))) (pss_one (ps_ret pe_bl)) pss_nil))))))))))
    (pss_one (ps_ret pe_bl)))), ?_⟩
  refine lawInT (q := (cxOf CX0 P w K mg base N_law (Str.ofString "law") (defScope s_law) T.f_law (Value.ref T.cL) A outer s H E).nox.env.qual ++ Str.ofString "<lambda>") h (by decide) fun b c H1 M0 E => ?_
  refine do_seq (do_for (js := [2]) (PX := fun l => l = upto 0 4) (it_range1 (ea_cons (ev_int (ea_nil ⟨4, rfl, by decide, by decide, rfl⟩)))) (fun _ _ δ => δ = slotsT N_law) (fun _ _ => rfl) ?_ ?_)
  · rintro l0 i0 x δ rfl hi rfl
    refine tg_name ?_
    refine do_wk [2, 3, 4, 5, 6, 7, 8, 9] ?_
    refine do_seq (do_set (ev_op (ev_int (ev_draw rfl rfl (ea_cons (ev_int (ea_nil ⟨4, rfl, by decide, by decide, fun r r0 r1 => od_int ?_⟩)))))))
    have hP : 1 ≤ 1 + r := by omega
    have hP4 : 1 + r ≤ 4 := by omega
    generalize 1 + r = P at hP hP4 ⊢
    clear r0 r1 r
    refine do_seq (do_set (ev_callB rfl rfl (ea_cons (ev_var rfl (ea_cons (ev_int (ea_nil ⟨⟨P, 6, rfl, hP, hP4, by decide, by decide⟩, fun d hd => ?_⟩)))))))
    obtain ⟨P', m', r, e, rfl, g, hparts, hlen⟩ := hd
    obtain rfl : P = P' := by simpa using (List.cons.inj e).1
    clear e hlen
    refine do_seq (do_set (ev_call (ea_cons (ev_var rfl (ea_nil ⟨⟨r, rfl, g⟩, fun d hd => ?_⟩)))))
    obtain ⟨r', e, rfl⟩ := hd
    obtain rfl := specD_inj (List.cons.inj e).1
    clear e
    show Do _ _ [.un, .bag, .dat x, .dat (.int P), .dat (specD r), .dat (.ins T.c_Reader (rdF r)), .un, .un, .un, .un] _
    have hpp : ((partsOf r.ss : Nat) : Int) = P := by rw [hparts]; omega
    have pl0 : plD (.tup [.int 0, .tup (upto 0 P.toNat)]) = true := by
      have : P.toNat = 1 ∨ P.toNat = 2 ∨ P.toNat = 3 ∨ P.toNat = 4 := by omega
      rcases this with h | h | h | h <;> rw [h] <;> decide
    have dp0 : Pf.dep (.tup [.int 0, .tup (upto 0 P.toNat)]) ≤ 6 := by
      have : P.toNat = 1 ∨ P.toNat = 2 ∨ P.toNat = 3 ∨ P.toNat = 4 := by omega
      rcases this with h | h | h | h <;> rw [h] <;> decide
    refine do_seq (do_if (et_not (et_test (ev_like (ea_cons (ev_callK (gD := gkb_first_standing_reader) (krkb_first_standing_reader K) (ea_nil (ea_cons (ev_var rfl (ea_nil ⟨⟨r, rfl, g⟩, fun d hd => ?_⟩))))))))))
    obtain rfl := postR_of hd
    refine ea_cons (ev_tup (ea_cons (ev_int (ea_cons (ev_tupRg1 (ev_var (d := .int P) rfl ⟨P, rfl, by omega, by omega, ea_nil ⟨by simp, ea_nil ⟨_, _, rfl, by rw [hparts]; exact pl0, pl0, dp0, _, rfl, ?_⟩⟩⟩))))))
    rw [hparts, likeD_self _ pl0]
    refine ⟨(fun h => nomatch h), fun _ => do_next ?_⟩
    refine do_cut (fun δ => ∃ y z, δ = [.un, .bag, .dat x, .dat (.int P), .dat (specD r), .dat (.ins T.c_Reader (rdF r)), y, z, .un, .un]) ?_ ?_
    · refine do_for (js := [6]) (PX := fun l => l = upto 0 4) (it_range1 (ea_cons (ev_int (ea_nil ⟨4, rfl, by decide, by decide, rfl⟩)))) (fun _ _ δ => ∃ y z, δ = [.un, .bag, .dat x, .dat (.int P), .dat (specD r), .dat (.ins T.c_Reader (rdF r)), y, z, .un, .un]) (fun _ _ => ⟨.un, .un, rfl⟩) ?_ ?_
      · rintro l' i' x' δ' rfl hi' ⟨y, z, rfl⟩
        refine tg_name (do_seq (do_set (ev_callB rfl rfl (ea_cons (ev_var rfl (ea_nil ⟨⟨r, rfl, g⟩, fun d hd => ?_⟩))))))
        obtain ⟨r', a, ls, e, rfl, ha, hl⟩ := hd
        obtain rfl := specD_inj (List.cons.inj e).1
        clear e
        have p4 := g.ss.p4
        have hll := hl.len
        have h4 : ls.length ≤ 4 := by omega
        obtain ⟨s, hs⟩ : ∃ s, r.ss[a]? = some s := ⟨r.ss[a], by simp [ha]⟩
        have preS : preStgG T.c_Reader [.ins T.c_Reader (rdF r), stgD (a : Int) ls] := ⟨r, _, rfl, g, okZ_stg h4⟩
        have stp : ∀ {es : List D}, postSteps T.c_Reader [.ins T.c_Reader (rdF r), stgD (a : Int) ls] es → es = (sortS (stepsP r s ls)).map sgD := fun {es} ⟨r', a', l', s', e, hs', _, ee⟩ => by
          obtain ⟨rfl, e2⟩ := two_inj e
          obtain ⟨rfl, rfl⟩ := stgD_inj e2
          rw [hs] at hs'
          cases hs'
          exact ee
        have nox : ∀ C gs, ¬ pxChk T.c_Reader T.c_InvalidStanding [.ins T.c_Reader (rdF r), stgD (a : Int) ls] C gs := fun C gs ⟨r', v', e, hb, _⟩ => by
          obtain ⟨rfl, rfl⟩ := two_inj e
          rw [stg_yes ha hl] at hb
          cases hb
        have lst : ∀ {d : D}, postStL [specD r, stgD (a : Int) ls] d → d = .lst ((sortS (stepsP r s ls)).map sgD) := fun {d} ⟨r', a', l', s', e, hs', ee⟩ => by
          obtain ⟨e1, e2⟩ := List.cons.inj e
          obtain rfl := specD_inj e1
          obtain ⟨rfl, rfl⟩ := stgD_inj (List.cons.inj e2).1
          rw [hs] at hs'
          cases hs'
          rw [ee, steps_same hl p4]
        have pk : plD (.lst ((sortS (stepsP r s ls)).map sgD)) = true := pl_sgL (fun p hp => steps_mem ((sortS_perm _).mem_iff.mp hp) h4) (by rw [(sortS_perm _).length_eq]; have := steps_len (r := r) (s := s) h4; omega)
        have dk := dep_sgL (sortS (stepsP r s ls))
        show Do _ _ [.un, .bag, .dat x, .dat (.int P), .dat (specD r), .dat (.ins T.c_Reader (rdF r)), .dat x', .dat (stgD (a : Int) ls), .un, .un] _
        refine do_seq (do_if (et_not (et_test (ev_like (ea_cons (EvN.ev (PfJ.en_callN0 (ea_cons (ev_var rfl (ea_cons (ev_var rfl (ea_nil ⟨preS, fun es he => ?_, nox⟩))))))))))))
        obtain rfl := stp he
        refine ea_cons (ev_call (ea_cons (ev_var rfl (ea_cons (ev_var rfl (ea_nil ⟨⟨r, a, ls, rfl, g, ha, hl⟩, fun d hd => ?_⟩))))))
        obtain rfl := lst hd
        refine ea_nil ⟨_, _, rfl, pk, pk, dk, _, rfl, ?_⟩
        rw [likeD_self _ pk]
        refine ⟨(fun h => nomatch h), fun _ => do_next ?_⟩
        refine do_seq (do_dropClear (PL := fun _ => True) (PfJ.en_callN0 (ea_cons (ev_var rfl (ea_cons (ev_var rfl (ea_nil ⟨preS, fun _ _ => trivial, nox⟩)))))) ?_)
        refine do_if (et_not (et_test (ev_like (ea_cons (EvN.ev (PfJ.en_callKN0 (gD := gkb_p_steps_standing_reader) (krkb_p_steps_standing_reader K) (ea_nil (ea_cons (ev_var rfl (ea_cons (ev_var rfl (ea_nil ⟨preS, fun es he => ?_, nox⟩))))))))))))
        obtain rfl := stp he
        refine ea_cons (ev_call (ea_cons (ev_var rfl (ea_cons (ev_var rfl (ea_nil ⟨⟨r, a, ls, rfl, g, ha, hl⟩, fun d hd => ?_⟩))))))
        obtain rfl := lst hd
        refine ea_nil ⟨_, _, rfl, pk, pk, dk, _, rfl, ?_⟩
        rw [likeD_self _ pk]
        exact ⟨(fun h => nomatch h), fun _ => do_next ⟨_, _, rfl⟩⟩
      · rintro l' δ' rfl ⟨y, z, rfl⟩
        exact ⟨y, z, rfl⟩
    rintro δ' ⟨y, z, rfl⟩
    refine do_seq (do_set (ev_callB rfl rfl (ea_cons (ev_var rfl (ea_nil ⟨⟨r, rfl, g⟩, fun odd hd => ?_⟩)))))
    obtain ⟨r', e, oz, bad⟩ := hd
    obtain rfl := specD_inj (List.cons.inj e).1
    clear e
    show Do _ _ [.un, .bag, .dat x, .dat (.int P), .dat (specD r), .dat (.ins T.c_Reader (rdF r)), y, z, .dat odd, .un] _
    have pd1 : plD (.lst [.tup [.str "InvalidStanding", odd], .tup [.str "InvalidStanding", odd]]) = true := by
      simp only [plD, plL, oz.1, Bool.and_true, List.length_cons, List.length_nil]
      rfl
    have dd1 : Pf.dep (.lst [.tup [.str "InvalidStanding", odd], .tup [.str "InvalidStanding", odd]]) ≤ 6 := by
      have h1 := oz.2.1
      simp only [Pf.dep, depL]
      omega
    have pxo : ∀ {C : Addr} {gs : List (Str × D)}, pxChk T.c_Reader T.c_InvalidStanding [.ins T.c_Reader (rdF r), odd] C gs → C = T.c_InvalidStanding ∧ gs = gx "given" "InvalidStanding" odd := fun {C gs} ⟨r', v', e, _, h1, h2⟩ => by
      obtain ⟨rfl, rfl⟩ := two_inj e
      exact ⟨h1, h2⟩
    refine do_seq (do_set (Ev.imp (P := (· = .lst [.tup [.str "InvalidStanding", odd], .tup [.str "InvalidStanding", odd]])) (ev_fzL rfl rfl (ev_lst (ea_cons (ev_lam rfl (.inl rfl) fun f0 F0 hs0 li0 eq0 => ea_cons (ev_lam rfl (.inr (List.cons_ne_nil _ _)) fun f1 F1 hs1 li1 eq1 => ea_nil ⟨by simp, [(f0, hs0, (· = .tup [.str "InvalidStanding", odd])), (f1, hs1, (· = .tup [.str "InvalidStanding", odd]))], rfl, by simp, fun l hl => ?_, fun ds o => ?_⟩))))) fun d e => ?_))
    · simp only [List.mem_cons, List.not_mem_nil, or_false] at hl
      rcases hl with rfl | rfl
      · refine lam_bad (fun E' => tCall (PfJ.spRN K (preStgG T.c_Reader) (postSteps T.c_Reader) (pxChk T.c_Reader T.c_InvalidStanding)) [] E' (tCons (tVar 5) (tCons (tVar 8) tNil))) [5, 8] _ _ _ _ (e_stand T) li0 eq0 (law_cells (by kernel_rfl)) .zero (lsc_by (by kernel_rfl)) (fun c dV A outer s H0 E' hr => (pe_call (ok_p_steps T) (hr.mono (by decide)) rfl T.g_p_steps T.k_p_steps T.bd_p_steps .nil passX (pa_cons (pv 5) (pa_cons (pv 8) pa_nil)))) (hj2 rfl rfl) fun M' H' E' ok => EvN.ev (PfJ.en_callRN (F := ⟨K, none, M', H', E', 0, []⟩) ok (ea_cons (ev_cap (d := .ins T.c_Reader (rdF r)) rfl (by decide) (ea_cons (ev_cap (d := odd) rfl (by decide) (ea_nil ⟨⟨r, odd, rfl, g, oz⟩, fun es ⟨r', a', l', s', e, hs', hv, _⟩ => ?_, fun C gs hx => pxo hx⟩))))))
        obtain ⟨rfl, rfl⟩ := two_inj e
        rw [bad] at hv
        cases hv
      · exact lam_bad (fun E' => tCall (spR K (preBad T.c_Reader "") (fun _ _ => False) (pxChk T.c_Reader T.c_InvalidStanding)) [] E' (tCons (tVar 5) (tCons (tVar 8) tNil))) [5, 8] _ _ _ _ (e_stand T) li1 eq1 (law_cells (by kernel_rfl)) (.one _ _ _ _ _) (lsc_by (by kernel_rfl)) (fun c dV A outer s H0 E' hr => (pe_call (ok_kinds_at T) (hr.mono (by decide)) rfl T.g_kinds_at T.k_kinds_at T.bd_kinds_at .nil passX (pa_cons (pv 5) (pa_cons (pv 8) pa_nil)))) (hj2 rfl rfl) fun M' H' E' ok => ev_callR (F := ⟨K, none, M', H', E', 0, []⟩) ok (ea_cons (ev_cap (d := .ins T.c_Reader (rdF r)) rfl (by decide) (ea_cons (ev_cap (d := odd) rfl (by decide) (ea_nil ⟨⟨r, odd, rfl, g, oz, bad⟩, fun d hd => hd.elim, fun C gs hx => pxo hx⟩)))))
    · rw [outF_eq (xs := [.tup [.str "InvalidStanding", odd], .tup [.str "InvalidStanding", odd]]) o]
    subst e
    refine do_if (et_not (et_test (ev_like (ea_cons (ev_var (d := .lst [.tup [.str "InvalidStanding", odd], .tup [.str "InvalidStanding", odd]]) rfl ?_)))))
    refine ea_cons (ev_op (ev_lst (ea_cons (ev_tup (ea_cons (ev_str (ea_cons (ev_var (d := odd) rfl (ea_nil ⟨by simp, ea_nil ⟨by simp, ev_int (od_rep (by decide) (by decide) (by simp) (ea_nil ⟨_, _, rfl, pd1, pd1, dd1, _, rfl, ?_⟩))⟩⟩)))))))))
    rw [show (List.replicate (Int.toNat 2) [D.tup [D.str "InvalidStanding", odd]]).flatten = [.tup [.str "InvalidStanding", odd], .tup [.str "InvalidStanding", odd]] from rfl, likeD_self _ pd1]
    exact ⟨(fun h => nomatch h), fun _ => do_next rfl⟩
  · rintro l δ rfl rfl
    exact do_ret (ev_bl rfl)
theorem all_mk {l : PySem.W.OpenLaw} {w : World} {K : PySem.W.Frag} {h : Heap} {mg : Str → Option Value} {fa : Addr} (X : K.In h) (G : h.Ns mainGlobals mg) (hfa : mg "law" = some (.ref fa))
    {t__MOST_SIZE : Tok}
    {c_Table : Addr}
    {u_Table_MOST_PARTS : Tok}
    {c_Reader : Addr}
    {p_Reader_mark : Addr} {ps_Reader_mark : List Value}
    {p_Reader_inner : Addr} {ps_Reader_inner : List Value}
    {p_Reader_order : Addr} {ps_Reader_order : List Value}
    {p_Reader_parts : Addr} {ps_Reader_parts : List Value}
    {u_Reader_MOST_STATES : Tok}
    {u_Reader_MOST_ASK : Tok}
    {tk19_inner : Tok}
    {tk19_order : Tok}
    {ct_Reader_MARKS : Addr} {co_Reader_MARKS : Option Addr} {cs_Reader_MARKS : Array (Option Value)} {cn_Reader_MARKS : Nat} {wReader_MARKS_0 wReader_MARKS_1 wReader_MARKS_2 wReader_MARKS_3 wReader_MARKS_4 wReader_MARKS_5 : Tok}
    {ct_Reader_INNER : Addr} {co_Reader_INNER : Option Addr} {cs_Reader_INNER : Array (Option Value)} {cn_Reader_INNER : Nat} {wReader_INNER_0 wReader_INNER_1 : Tok}
    {ct_Reader_ORDERS : Addr} {co_Reader_ORDERS : Option Addr} {cs_Reader_ORDERS : Array (Option Value)} {cn_Reader_ORDERS : Nat} {wReader_ORDERS_0 wReader_ORDERS_1 wReader_ORDERS_2 : Tok}
    {c_PartError : Addr}
    {c_Missing : Addr}
    {c_NothingLeft : Addr}
    {c_InvalidStanding : Addr}
    {cL pL : Addr} {ceL : Value} {cdL : Option Addr} {cvL : Array Value} {csL : Array (Option Value)} {fn1 : Addr} {od1 an1 : Option Addr} {sl1 : Array (Option Value)} {oc1 kV1 dc1 pm1 cd1 ct1 : Value}
    {fn2 : Addr} {od2 an2 : Option Addr} {sl2 : Array (Option Value)} {oc2 kV2 dc2 pm2 cd2 ct2 : Value}
    {fn3 : Addr} {od3 an3 : Option Addr} {sl3 : Array (Option Value)} {oc3 kV3 dc3 pm3 cd3 ct3 : Value}
    {fn4 : Addr} {od4 an4 : Option Addr} {sl4 : Array (Option Value)} {oc4 kV4 dc4 pm4 cd4 ct4 : Value}
    {fn5 : Addr} {od5 an5 : Option Addr} {sl5 : Array (Option Value)} {oc5 kV5 dc5 pm5 cd5 ct5 : Value}
    {fn6 : Addr} {od6 an6 : Option Addr} {sl6 : Array (Option Value)} {oc6 kV6 dc6 pm6 cd6 ct6 : Value}
    {fn7 : Addr} {od7 an7 : Option Addr} {sl7 : Array (Option Value)} {oc7 kV7 dc7 pm7 cd7 ct7 : Value}
    {fn8 : Addr} {od8 an8 : Option Addr} {sl8 : Array (Option Value)} {oc8 kV8 dc8 pm8 cd8 ct8 : Value}
    {fn9 : Addr} {od9 an9 : Option Addr} {sl9 : Array (Option Value)} {oc9 kV9 dc9 pm9 cd9 ct9 : Value}
    {fn10 : Addr} {od10 an10 : Option Addr} {sl10 : Array (Option Value)} {oc10 kV10 dc10 pm10 cd10 ct10 : Value}
    {fn11 : Addr} {od11 an11 : Option Addr} {sl11 : Array (Option Value)} {oc11 kV11 dc11 pm11 cd11 ct11 : Value}
    {fn12 : Addr} {od12 an12 : Option Addr} {sl12 : Array (Option Value)} {oc12 kV12 dc12 pm12 cd12 ct12 : Value}
    {fn13 : Addr} {od13 an13 : Option Addr} {sl13 : Array (Option Value)} {oc13 kV13 dc13 pm13 cd13 ct13 : Value}
    {fn14 : Addr} {od14 an14 : Option Addr} {sl14 : Array (Option Value)} {oc14 kV14 dc14 pm14 cd14 ct14 : Value}
    {fn15 : Addr} {od15 an15 : Option Addr} {sl15 : Array (Option Value)} {oc15 kV15 dc15 pm15 cd15 ct15 : Value}
    {fn16 : Addr} {od16 an16 : Option Addr} {sl16 : Array (Option Value)} {oc16 kV16 dc16 pm16 cd16 ct16 : Value}
    {fn17 : Addr} {od17 an17 : Option Addr} {sl17 : Array (Option Value)} {oc17 kV17 dc17 pm17 cd17 ct17 : Value}
    {fn18 : Addr} {od18 an18 : Option Addr} {sl18 : Array (Option Value)} {oc18 kV18 dc18 pm18 cd18 ct18 : Value}
    {fn19 : Addr} {od19 an19 : Option Addr} {sl19 : Array (Option Value)} {kD19 : Addr} {oc19 dc19 pm19 cd19 ct19 : Value}
    {fn20 : Addr} {od20 an20 : Option Addr} {sl20 : Array (Option Value)} {oc20 kV20 dc20 pm20 cd20 ct20 : Value}
    {fn21 : Addr} {od21 an21 : Option Addr} {sl21 : Array (Option Value)} {oc21 kV21 dc21 pm21 cd21 ct21 : Value}
    {fn22 : Addr} {od22 an22 : Option Addr} {sl22 : Array (Option Value)} {oc22 kV22 dc22 pm22 cd22 ct22 : Value}
    {fn23 : Addr} {od23 an23 : Option Addr} {sl23 : Array (Option Value)} {oc23 kV23 dc23 pm23 cd23 ct23 : Value}
    {fn24 : Addr} {od24 an24 : Option Addr} {sl24 : Array (Option Value)} {oc24 kV24 dc24 pm24 cd24 ct24 : Value}
    {fn25 : Addr} {od25 an25 : Option Addr} {sl25 : Array (Option Value)} {oc25 kV25 dc25 pm25 cd25 ct25 : Value}
    {fn26 : Addr} {od26 an26 : Option Addr} {sl26 : Array (Option Value)} {oc26 kV26 dc26 pm26 cd26 ct26 : Value}
    {fn27 : Addr} {od27 an27 : Option Addr} {sl27 : Array (Option Value)} {oc27 kV27 dc27 pm27 cd27 ct27 : Value}
    {fn28 : Addr} {od28 an28 : Option Addr} {sl28 : Array (Option Value)} {oc28 kV28 dc28 pm28 cd28 ct28 : Value}
    {fn29 : Addr} {od29 an29 : Option Addr} {sl29 : Array (Option Value)} {oc29 kV29 dc29 pm29 cd29 ct29 : Value}
    {fn30 : Addr} {od30 an30 : Option Addr} {sl30 : Array (Option Value)} {oc30 kV30 dc30 pm30 cd30 ct30 : Value}
    {fn31 : Addr} {od31 an31 : Option Addr} {sl31 : Array (Option Value)} {oc31 kV31 dc31 pm31 cd31 ct31 : Value}
    {fn32 : Addr} {od32 an32 : Option Addr} {sl32 : Array (Option Value)} {oc32 kV32 dc32 pm32 cd32 ct32 : Value}
    {fn33 : Addr} {od33 an33 : Option Addr} {sl33 : Array (Option Value)} {oc33 kV33 dc33 pm33 cd33 ct33 : Value}
    {fn34 : Addr} {od34 an34 : Option Addr} {sl34 : Array (Option Value)} {oc34 kV34 dc34 pm34 cd34 ct34 : Value}
    {fn35 : Addr} {od35 an35 : Option Addr} {sl35 : Array (Option Value)} {oc35 kV35 dc35 pm35 cd35 ct35 : Value}
    {fn36 : Addr} {od36 an36 : Option Addr} {sl36 : Array (Option Value)} {oc36 kV36 dc36 pm36 cd36 ct36 : Value}
    {fn37 : Addr} {od37 an37 : Option Addr} {sl37 : Array (Option Value)} {oc37 kV37 dc37 pm37 cd37 ct37 : Value}
    {fn38 : Addr} {od38 an38 : Option Addr} {sl38 : Array (Option Value)} {oc38 kV38 dc38 pm38 cd38 ct38 : Value}
    {fn39 : Addr} {od39 an39 : Option Addr} {sl39 : Array (Option Value)} {oc39 kV39 dc39 pm39 cd39 ct39 : Value}
    {fn40 : Addr} {od40 an40 : Option Addr} {sl40 : Array (Option Value)} {oc40 kV40 dc40 pm40 cd40 ct40 : Value}
    {fn41 : Addr} {od41 an41 : Option Addr} {sl41 : Array (Option Value)} {oc41 kV41 dc41 pm41 ct41 : Value}
    (y_Table : PySem.W.nsIn K mainGlobals "Table" = some (some (.ref c_Table)))
    (y_Reader : PySem.W.nsIn K mainGlobals "Reader" = some (some (.ref c_Reader)))
    (y_PartError : PySem.W.nsIn K mainGlobals "PartError" = some (some (.ref c_PartError)))
    (y_Missing : PySem.W.nsIn K mainGlobals "Missing" = some (some (.ref c_Missing)))
    (y_NothingLeft : PySem.W.nsIn K mainGlobals "NothingLeft" = some (some (.ref c_NothingLeft)))
    (y_InvalidStanding : PySem.W.nsIn K mainGlobals "InvalidStanding" = some (some (.ref c_InvalidStanding)))
    (a1 : PySem.W.nsIn K mainGlobals "copied" = some (some (.ref fn1)))
    (l1 : K.lookup fn1 = some ⟨oc1, od1, .func (PySem.W.fnOf "copied" "copied" (defArgs s_copied) (defBody s_copied) (defScope s_copied) .none kV1 dc1 pm1 an1 cd1 ct1), sl1⟩)
    (e1 : PySem.W.codeIn K cd1 "copied" = true)
    (k1 : PySem.W.keepIn K (.ref fn1) = true)
    (a2 : PySem.W.findIn K (.ref c_InvalidStanding) "__init__" = some (some (.ref fn2)))
    (l2 : K.lookup fn2 = some ⟨oc2, od2, .func (PySem.W.fnOf "__init__" "InvalidStanding.__init__" (defArgs s_InvalidStanding_init) (defBody s_InvalidStanding_init) (defScope s_InvalidStanding_init) .none kV2 dc2 pm2 an2 cd2 ct2), sl2⟩)
    (e2 : PySem.W.codeIn K cd2 "InvalidStanding.__init__" = true)
    (k2 : PySem.W.keepIn K (.ref fn2) = true)
    (a3 : PySem.W.nsIn K mainGlobals "is_whole" = some (some (.ref fn3)))
    (l3 : K.lookup fn3 = some ⟨oc3, od3, .func (PySem.W.fnOf "is_whole" "is_whole" (defArgs s_is_whole) (defBody s_is_whole) (defScope s_is_whole) .none kV3 dc3 pm3 an3 cd3 ct3), sl3⟩)
    (e3 : PySem.W.codeIn K cd3 "is_whole" = true)
    (k3 : PySem.W.keepIn K (.ref fn3) = true)
    (a4 : PySem.W.nsIn K mainGlobals "is_number" = some (some (.ref fn4)))
    (l4 : K.lookup fn4 = some ⟨oc4, od4, .func (PySem.W.fnOf "is_number" "is_number" (defArgs s_is_number) (defBody s_is_number) (defScope s_is_number) .none kV4 dc4 pm4 an4 cd4 ct4), sl4⟩)
    (e4 : PySem.W.codeIn K cd4 "is_number" = true)
    (k4 : PySem.W.keepIn K (.ref fn4) = true)
    (a5 : PySem.W.nsIn K mainGlobals "_are_live" = some (some (.ref fn5)))
    (l5 : K.lookup fn5 = some ⟨oc5, od5, .func (PySem.W.fnOf "_are_live" "_are_live" (defArgs s__are_live) (defBody s__are_live) (defScope s__are_live) .none kV5 dc5 pm5 an5 cd5 ct5), sl5⟩)
    (e5 : PySem.W.codeIn K cd5 "_are_live" = true)
    (k5 : PySem.W.keepIn K (.ref fn5) = true)
    (a6 : PySem.W.nsIn K mainGlobals "is_standing" = some (some (.ref fn6)))
    (l6 : K.lookup fn6 = some ⟨oc6, od6, .func (PySem.W.fnOf "is_standing" "is_standing" (defArgs s_is_standing) (defBody s_is_standing) (defScope s_is_standing) .none kV6 dc6 pm6 an6 cd6 ct6), sl6⟩)
    (e6 : PySem.W.codeIn K cd6 "is_standing" = true)
    (k6 : PySem.W.keepIn K (.ref fn6) = true)
    (a7 : PySem.W.nsIn K mainGlobals "_check_standing" = some (some (.ref fn7)))
    (l7 : K.lookup fn7 = some ⟨oc7, od7, .func (PySem.W.fnOf "_check_standing" "_check_standing" (defArgs s__check_standing) (defBody s__check_standing) (defScope s__check_standing) .none kV7 dc7 pm7 an7 cd7 ct7), sl7⟩)
    (e7 : PySem.W.codeIn K cd7 "_check_standing" = true)
    (k7 : PySem.W.keepIn K (.ref fn7) = true)
    (a8 : PySem.W.nsIn K mainGlobals "_subsets" = some (some (.ref fn8)))
    (l8 : K.lookup fn8 = some ⟨oc8, od8, .func (PySem.W.fnOf "_subsets" "_subsets" (defArgs s__subsets) (defBody s__subsets) (defScope s__subsets) .none kV8 dc8 pm8 an8 cd8 ct8), sl8⟩)
    (e8 : PySem.W.codeIn K cd8 "_subsets" = true)
    (k8 : PySem.W.keepIn K (.ref fn8) = true)
    (a9 : PySem.W.nsIn K mainGlobals "_asked" = some (some (.ref fn9)))
    (l9 : K.lookup fn9 = some ⟨oc9, od9, .func (PySem.W.fnOf "_asked" "_asked" (defArgs s__asked) (defBody s__asked) (defScope s__asked) .none kV9 dc9 pm9 an9 cd9 ct9), sl9⟩)
    (e9 : PySem.W.codeIn K cd9 "_asked" = true)
    (k9 : PySem.W.keepIn K (.ref fn9) = true)
    (a10 : PySem.W.nsIn K mainGlobals "first_standing" = some (some (.ref fn10)))
    (l10 : K.lookup fn10 = some ⟨oc10, od10, .func (PySem.W.fnOf "first_standing" "first_standing" (defArgs s_first_standing) (defBody s_first_standing) (defScope s_first_standing) .none kV10 dc10 pm10 an10 cd10 ct10), sl10⟩)
    (e10 : PySem.W.codeIn K cd10 "first_standing" = true)
    (k10 : PySem.W.keepIn K (.ref fn10) = true)
    (a11 : PySem.W.nsIn K mainGlobals "steps" = some (some (.ref fn11)))
    (l11 : K.lookup fn11 = some ⟨oc11, od11, .func (PySem.W.fnOf "steps" "steps" (defArgs s_p_steps) (defBody s_p_steps) (defScope s_p_steps) .none kV11 dc11 pm11 an11 cd11 ct11), sl11⟩)
    (e11 : PySem.W.codeIn K cd11 "steps" = true)
    (k11 : PySem.W.keepIn K (.ref fn11) = true)
    (a12 : PySem.W.nsIn K mainGlobals "kinds_at" = some (some (.ref fn12)))
    (l12 : K.lookup fn12 = some ⟨oc12, od12, .func (PySem.W.fnOf "kinds_at" "kinds_at" (defArgs s_kinds_at) (defBody s_kinds_at) (defScope s_kinds_at) .none kV12 dc12 pm12 an12 cd12 ct12), sl12⟩)
    (e12 : PySem.W.codeIn K cd12 "kinds_at" = true)
    (k12 : PySem.W.keepIn K (.ref fn12) = true)
    (a13 : PySem.W.nsIn K mainGlobals "_is_ask" = some (some (.ref fn13)))
    (l13 : K.lookup fn13 = some ⟨oc13, od13, .func (PySem.W.fnOf "_is_ask" "_is_ask" (defArgs s__is_ask) (defBody s__is_ask) (defScope s__is_ask) .none kV13 dc13 pm13 an13 cd13 ct13), sl13⟩)
    (e13 : PySem.W.codeIn K cd13 "_is_ask" = true)
    (k13 : PySem.W.keepIn K (.ref fn13) = true)
    (a14 : PySem.W.nsIn K mainGlobals "_are_asks" = some (some (.ref fn14)))
    (l14 : K.lookup fn14 = some ⟨oc14, od14, .func (PySem.W.fnOf "_are_asks" "_are_asks" (defArgs s__are_asks) (defBody s__are_asks) (defScope s__are_asks) .none kV14 dc14 pm14 an14 cd14 ct14), sl14⟩)
    (e14 : PySem.W.codeIn K cd14 "_are_asks" = true)
    (k14 : PySem.W.keepIn K (.ref fn14) = true)
    (a15 : PySem.W.nsIn K mainGlobals "_is_following" = some (some (.ref fn15)))
    (l15 : K.lookup fn15 = some ⟨oc15, od15, .func (PySem.W.fnOf "_is_following" "_is_following" (defArgs s__is_following) (defBody s__is_following) (defScope s__is_following) .none kV15 dc15 pm15 an15 cd15 ct15), sl15⟩)
    (e15 : PySem.W.codeIn K cd15 "_is_following" = true)
    (k15 : PySem.W.keepIn K (.ref fn15) = true)
    (a16 : PySem.W.nsIn K mainGlobals "is_state" = some (some (.ref fn16)))
    (l16 : K.lookup fn16 = some ⟨oc16, od16, .func (PySem.W.fnOf "is_state" "is_state" (defArgs s__is_state) (defBody s__is_state) (defScope s__is_state) .none kV16 dc16 pm16 an16 cd16 ct16), sl16⟩)
    (e16 : PySem.W.codeIn K cd16 "is_state" = true)
    (k16 : PySem.W.keepIn K (.ref fn16) = true)
    (a17 : PySem.W.nsIn K mainGlobals "check_orders" = some (some (.ref fn17)))
    (l17 : K.lookup fn17 = some ⟨oc17, od17, .func (PySem.W.fnOf "check_orders" "check_orders" (defArgs s_check_orders) (defBody s_check_orders) (defScope s_check_orders) .none kV17 dc17 pm17 an17 cd17 ct17), sl17⟩)
    (e17 : PySem.W.codeIn K cd17 "check_orders" = true)
    (k17 : PySem.W.keepIn K (.ref fn17) = true)
    (a18 : PySem.W.nsIn K mainGlobals "_check_states" = some (some (.ref fn18)))
    (l18 : K.lookup fn18 = some ⟨oc18, od18, .func (PySem.W.fnOf "_check_states" "_check_states" (defArgs s__check_states) (defBody s__check_states) (defScope s__check_states) .none kV18 dc18 pm18 an18 cd18 ct18), sl18⟩)
    (e18 : PySem.W.codeIn K cd18 "_check_states" = true)
    (k18 : PySem.W.keepIn K (.ref fn18) = true)
    (a19 : PySem.W.findIn K (.ref c_Reader) "__init__" = some (some (.ref fn19)))
    (l19 : K.lookup fn19 = some ⟨oc19, od19, .func (PySem.W.fnOf "__init__" "Reader.__init__" (defArgs s_Reader_init) (defBody s_Reader_init) (defScope s_Reader_init) .none (.ref kD19) dc19 pm19 an19 cd19 ct19), sl19⟩)
    (e19 : PySem.W.codeIn K cd19 "Reader.__init__" = true)
    (k19 : PySem.W.keepIn K (.ref fn19) = true)
    (b20 : PySem.W.findIn K (.ref c_Reader) "mark" = some (some (.ref p_Reader_mark)))
    (a20 : PySem.W.recIn K p_Reader_mark "property" = some (.ref fn20 :: ps_Reader_mark))
    (l20 : K.lookup fn20 = some ⟨oc20, od20, .func (PySem.W.fnOf "mark" "Reader.mark" (defArgs s_Reader_mark) (defBody s_Reader_mark) (defScope s_Reader_mark) .none kV20 dc20 pm20 an20 cd20 ct20), sl20⟩)
    (e20 : PySem.W.codeIn K cd20 "Reader.mark" = true)
    (k20 : PySem.W.keepIn K (.ref fn20) = true)
    (b21 : PySem.W.findIn K (.ref c_Reader) "inner" = some (some (.ref p_Reader_inner)))
    (a21 : PySem.W.recIn K p_Reader_inner "property" = some (.ref fn21 :: ps_Reader_inner))
    (l21 : K.lookup fn21 = some ⟨oc21, od21, .func (PySem.W.fnOf "inner" "Reader.inner" (defArgs s_Reader_inner) (defBody s_Reader_inner) (defScope s_Reader_inner) .none kV21 dc21 pm21 an21 cd21 ct21), sl21⟩)
    (e21 : PySem.W.codeIn K cd21 "Reader.inner" = true)
    (k21 : PySem.W.keepIn K (.ref fn21) = true)
    (b22 : PySem.W.findIn K (.ref c_Reader) "order" = some (some (.ref p_Reader_order)))
    (a22 : PySem.W.recIn K p_Reader_order "property" = some (.ref fn22 :: ps_Reader_order))
    (l22 : K.lookup fn22 = some ⟨oc22, od22, .func (PySem.W.fnOf "order" "Reader.order" (defArgs s_Reader_order) (defBody s_Reader_order) (defScope s_Reader_order) .none kV22 dc22 pm22 an22 cd22 ct22), sl22⟩)
    (e22 : PySem.W.codeIn K cd22 "Reader.order" = true)
    (k22 : PySem.W.keepIn K (.ref fn22) = true)
    (b23 : PySem.W.findIn K (.ref c_Reader) "parts" = some (some (.ref p_Reader_parts)))
    (a23 : PySem.W.recIn K p_Reader_parts "property" = some (.ref fn23 :: ps_Reader_parts))
    (l23 : K.lookup fn23 = some ⟨oc23, od23, .func (PySem.W.fnOf "parts" "Reader.parts" (defArgs s_Reader_parts) (defBody s_Reader_parts) (defScope s_Reader_parts) .none kV23 dc23 pm23 an23 cd23 ct23), sl23⟩)
    (e23 : PySem.W.codeIn K cd23 "Reader.parts" = true)
    (k23 : PySem.W.keepIn K (.ref fn23) = true)
    (a24 : PySem.W.findIn K (.ref c_Reader) "states" = some (some (.ref fn24)))
    (l24 : K.lookup fn24 = some ⟨oc24, od24, .func (PySem.W.fnOf "states" "Reader.states" (defArgs s_Reader_states) (defBody s_Reader_states) (defScope s_Reader_states) .none kV24 dc24 pm24 an24 cd24 ct24), sl24⟩)
    (e24 : PySem.W.codeIn K cd24 "Reader.states" = true)
    (k24 : PySem.W.keepIn K (.ref fn24) = true)
    (a25 : PySem.W.findIn K (.ref c_Reader) "__len__" = some (some (.ref fn25)))
    (l25 : K.lookup fn25 = some ⟨oc25, od25, .func (PySem.W.fnOf "__len__" "Reader.__len__" (defArgs s_Reader_len) (defBody s_Reader_len) (defScope s_Reader_len) .none kV25 dc25 pm25 an25 cd25 ct25), sl25⟩)
    (e25 : PySem.W.codeIn K cd25 "Reader.__len__" = true)
    (k25 : PySem.W.keepIn K (.ref fn25) = true)
    (a26 : PySem.W.nsIn K mainGlobals "_law_open" = some (some (.ref fn26)))
    (l26 : K.lookup fn26 = some ⟨oc26, od26, .func (PySem.W.fnOf "_law_open" "_law_open" (defArgs s_open) (defBody s_open) (defScope s_open) .none kV26 dc26 pm26 an26 cd26 ct26), sl26⟩)
    (e26 : PySem.W.codeIn K cd26 "_law_open" = true)
    (k26 : PySem.W.keepIn K (.ref fn26) = true)
    (a27 : PySem.W.nsIn K mainGlobals "_law_draw" = some (some (.ref fn27)))
    (l27 : K.lookup fn27 = some ⟨oc27, od27, .func (PySem.W.fnOf "_law_draw" "_law_draw" (defArgs s_draw) (defBody s_draw) (defScope s_draw) .none kV27 dc27 pm27 an27 cd27 ct27), sl27⟩)
    (e27 : PySem.W.codeIn K cd27 "_law_draw" = true)
    (k27 : PySem.W.keepIn K (.ref fn27) = true)
    (a28 : PySem.W.nsIn K mainGlobals "_law_of" = some (some (.ref fn28)))
    (l28 : K.lookup fn28 = some ⟨oc28, od28, .func (PySem.W.fnOf "_law_of" "_law_of" (defArgs s_of) (defBody s_of) (defScope s_of) .none kV28 dc28 pm28 an28 cd28 ct28), sl28⟩)
    (e28 : PySem.W.codeIn K cd28 "_law_of" = true)
    (k28 : PySem.W.keepIn K (.ref fn28) = true)
    (a29 : PySem.W.nsIn K mainGlobals "_law_like" = some (some (.ref fn29)))
    (l29 : K.lookup fn29 = some ⟨oc29, od29, .func (PySem.W.fnOf "_law_like" "_law_like" (defArgs s_like) (defBody s_like) (defScope s_like) .none kV29 dc29 pm29 an29 cd29 ct29), sl29⟩)
    (e29 : PySem.W.codeIn K cd29 "_law_like" = true)
    (k29 : PySem.W.keepIn K (.ref fn29) = true)
    (a30 : PySem.W.nsIn K mainGlobals "_law_field" = some (some (.ref fn30)))
    (l30 : K.lookup fn30 = some ⟨oc30, od30, .func (PySem.W.fnOf "_law_field" "_law_field" (defArgs s_field) (defBody s_field) (defScope s_field) .none kV30 dc30 pm30 an30 cd30 ct30), sl30⟩)
    (e30 : PySem.W.codeIn K cd30 "_law_field" = true)
    (k30 : PySem.W.keepIn K (.ref fn30) = true)
    (a31 : PySem.W.nsIn K mainGlobals "_law_try" = some (some (.ref fn31)))
    (l31 : K.lookup fn31 = some ⟨oc31, od31, .func (PySem.W.fnOf "_law_try" "_law_try" (defArgs s_try) (defBody s_try) (defScope s_try) .none kV31 dc31 pm31 an31 cd31 ct31), sl31⟩)
    (e31 : PySem.W.codeIn K cd31 "_law_try" = true)
    (k31 : PySem.W.keepIn K (.ref fn31) = true)
    (a32 : PySem.W.nsIn K mainGlobals "_law_tries" = some (some (.ref fn32)))
    (l32 : K.lookup fn32 = some ⟨oc32, od32, .func (PySem.W.fnOf "_law_tries" "_law_tries" (defArgs s_tries) (defBody s_tries) (defScope s_tries) .none kV32 dc32 pm32 an32 cd32 ct32), sl32⟩)
    (e32 : PySem.W.codeIn K cd32 "_law_tries" = true)
    (k32 : PySem.W.keepIn K (.ref fn32) = true)
    (a33 : PySem.W.nsIn K mainGlobals "_law_state" = some (some (.ref fn33)))
    (l33 : K.lookup fn33 = some ⟨oc33, od33, .func (PySem.W.fnOf "_law_state" "_law_state" (defArgs s_state) (defBody s_state) (defScope s_state) .none kV33 dc33 pm33 an33 cd33 ct33), sl33⟩)
    (e33 : PySem.W.codeIn K cd33 "_law_state" = true)
    (k33 : PySem.W.keepIn K (.ref fn33) = true)
    (a34 : PySem.W.nsIn K mainGlobals "_law_spec" = some (some (.ref fn34)))
    (l34 : K.lookup fn34 = some ⟨oc34, od34, .func (PySem.W.fnOf "_law_spec" "_law_spec" (defArgs s_spec) (defBody s_spec) (defScope s_spec) .none kV34 dc34 pm34 an34 cd34 ct34), sl34⟩)
    (e34 : PySem.W.codeIn K cd34 "_law_spec" = true)
    (k34 : PySem.W.keepIn K (.ref fn34) = true)
    (a35 : PySem.W.nsIn K mainGlobals "_law_good_spec" = some (some (.ref fn35)))
    (l35 : K.lookup fn35 = some ⟨oc35, od35, .func (PySem.W.fnOf "_law_good_spec" "_law_good_spec" (defArgs s_good_spec) (defBody s_good_spec) (defScope s_good_spec) .none kV35 dc35 pm35 an35 cd35 ct35), sl35⟩)
    (e35 : PySem.W.codeIn K cd35 "_law_good_spec" = true)
    (k35 : PySem.W.keepIn K (.ref fn35) = true)
    (a36 : PySem.W.nsIn K mainGlobals "_law_reader" = some (some (.ref fn36)))
    (l36 : K.lookup fn36 = some ⟨oc36, od36, .func (PySem.W.fnOf "_law_reader" "_law_reader" (defArgs s_reader) (defBody s_reader) (defScope s_reader) .none kV36 dc36 pm36 an36 cd36 ct36), sl36⟩)
    (e36 : PySem.W.codeIn K cd36 "_law_reader" = true)
    (k36 : PySem.W.keepIn K (.ref fn36) = true)
    (a37 : PySem.W.nsIn K mainGlobals "_law_any_spec" = some (some (.ref fn37)))
    (l37 : K.lookup fn37 = some ⟨oc37, od37, .func (PySem.W.fnOf "_law_any_spec" "_law_any_spec" (defArgs s_any_spec) (defBody s_any_spec) (defScope s_any_spec) .none kV37 dc37 pm37 an37 cd37 ct37), sl37⟩)
    (e37 : PySem.W.codeIn K cd37 "_law_any_spec" = true)
    (k37 : PySem.W.keepIn K (.ref fn37) = true)
    (a38 : PySem.W.nsIn K mainGlobals "_law_steps" = some (some (.ref fn38)))
    (l38 : K.lookup fn38 = some ⟨oc38, od38, .func (PySem.W.fnOf "_law_steps" "_law_steps" (defArgs s_steps) (defBody s_steps) (defScope s_steps) .none kV38 dc38 pm38 an38 cd38 ct38), sl38⟩)
    (e38 : PySem.W.codeIn K cd38 "_law_steps" = true)
    (k38 : PySem.W.keepIn K (.ref fn38) = true)
    (a39 : PySem.W.nsIn K mainGlobals "_law_some_standing" = some (some (.ref fn39)))
    (l39 : K.lookup fn39 = some ⟨oc39, od39, .func (PySem.W.fnOf "_law_some_standing" "_law_some_standing" (defArgs s_some_standing) (defBody s_some_standing) (defScope s_some_standing) .none kV39 dc39 pm39 an39 cd39 ct39), sl39⟩)
    (e39 : PySem.W.codeIn K cd39 "_law_some_standing" = true)
    (k39 : PySem.W.keepIn K (.ref fn39) = true)
    (a40 : PySem.W.nsIn K mainGlobals "_law_no_standing" = some (some (.ref fn40)))
    (l40 : K.lookup fn40 = some ⟨oc40, od40, .func (PySem.W.fnOf "_law_no_standing" "_law_no_standing" (defArgs s_no_standing) (defBody s_no_standing) (defScope s_no_standing) .none kV40 dc40 pm40 an40 cd40 ct40), sl40⟩)
    (e40 : PySem.W.codeIn K cd40 "_law_no_standing" = true)
    (k40 : PySem.W.keepIn K (.ref fn40) = true)
    (a41 : PySem.W.nsIn K mainGlobals "law" = some (some (.ref fn41)))
    (l41 : K.lookup fn41 = some ⟨oc41, od41, .func (PySem.W.fnOf "law" "law" (defArgs s_law) (defBody s_law) (defScope s_law) .none kV41 dc41 pm41 an41 (.ref cL) ct41), sl41⟩)
    (e41 : PySem.W.codeIn K (.ref cL) "law" = true)
    (k41 : PySem.W.keepIn K (.ref fn41) = true)
    (z1 : PySem.W.nsIn K mainGlobals "all" = some none)
    (z2 : PySem.W.nsIn K mainGlobals "bool" = some none)
    (z3 : PySem.W.nsIn K mainGlobals "enumerate" = some none)
    (z4 : PySem.W.nsIn K mainGlobals "int" = some none)
    (z5 : PySem.W.nsIn K mainGlobals "isinstance" = some none)
    (z6 : PySem.W.nsIn K mainGlobals "len" = some none)
    (z7 : PySem.W.nsIn K mainGlobals "list" = some none)
    (z8 : PySem.W.nsIn K mainGlobals "range" = some none)
    (z9 : PySem.W.nsIn K mainGlobals "set" = some none)
    (z10 : PySem.W.nsIn K mainGlobals "sorted" = some none)
    (z11 : PySem.W.nsIn K mainGlobals "str" = some none)
    (z12 : PySem.W.nsIn K mainGlobals "sum" = some none)
    (z13 : PySem.W.nsIn K mainGlobals "tuple" = some none)
    (z14 : PySem.W.nsIn K mainGlobals "zip" = some none)
    (x1 : PySem.W.nsIn K mainGlobals "_MOST_SIZE" = some (some (.int 9 t__MOST_SIZE)))
    (x2 : PySem.W.plainGet K c_Table Str.empty = true)
    (x3 : PySem.W.hasDictIn K c_Table = true)
    (x4 : PySem.W.plainOver K c_Table = true)
    (x5 : PySem.W.findIn K (.ref c_Table) "__setattr__" = some (some (.builtin "object.__setattr__")))
    (x6 : PySem.W.findIn K (.ref c_Table) "__class__" = some (some (.builtin "object.__class__")))
    (x7 : PySem.W.specialIn K (.builtin "object.__class__") "__get__" = some (some (.builtin "getset_descriptor.__get__")))
    (x8 : PySem.W.takesIn K (.builtin "object.__class__") = some true)
    (x9 : PySem.W.mroIn K c_Table (.type "object") = some true)
    (x10 : PySem.W.readsIn K c_Table (.type "type") = true)
    (x11 : PySem.W.specialIn K (.ref c_Table) "__getattribute__" = some (some (.builtin "type.__getattribute__")))
    (x12 : PySem.W.findCls K (.ref c_Table) (.type "type") "MOST_PARTS" = some (.val (.int 4 u_Table_MOST_PARTS)))
    (x13 : PySem.W.isClsIn K c_Table = true)
    (x14 : PySem.W.typeIn K (.ref c_Table) = some (.type "type"))
    (x15 : PySem.W.plainGet K c_Reader Str.empty = true)
    (x16 : PySem.W.hasDictIn K c_Reader = true)
    (x17 : PySem.W.plainOver K c_Reader = true)
    (x18 : PySem.W.findIn K (.ref c_Reader) "__setattr__" = some (some (.builtin "object.__setattr__")))
    (x19 : PySem.W.findIn K (.ref c_Reader) "__class__" = some (some (.builtin "object.__class__")))
    (x20 : PySem.W.specialIn K (.builtin "object.__class__") "__get__" = some (some (.builtin "getset_descriptor.__get__")))
    (x21 : PySem.W.takesIn K (.builtin "object.__class__") = some true)
    (x22 : PySem.W.mroIn K c_Reader (.type "object") = some true)
    (x23 : PySem.W.makesIn K c_Reader = true)
    (x24 : PySem.W.findIn K (.ref c_Reader) "__init__" = some (some (.ref fn19)))
    (x25 : PySem.W.isFn K (.ref fn19) = true)
    (x26 : PySem.W.keepIn K (.ref c_Reader) = true)
    (x27 : PySem.W.isFn K (.ref fn24) = true)
    (x28 : PySem.W.isFn K (.ref fn25) = true)
    (x29 : PySem.W.specialIn K (.ref p_Reader_mark) "__get__" = some (some (.builtin "property.__get__")))
    (x30 : PySem.W.takesIn K (.ref p_Reader_mark) = some true)
    (x31 : PySem.W.specialIn K (.ref p_Reader_inner) "__get__" = some (some (.builtin "property.__get__")))
    (x32 : PySem.W.takesIn K (.ref p_Reader_inner) = some true)
    (x33 : PySem.W.specialIn K (.ref p_Reader_order) "__get__" = some (some (.builtin "property.__get__")))
    (x34 : PySem.W.takesIn K (.ref p_Reader_order) = some true)
    (x35 : PySem.W.specialIn K (.ref p_Reader_parts) "__get__" = some (some (.builtin "property.__get__")))
    (x36 : PySem.W.takesIn K (.ref p_Reader_parts) = some true)
    (x37 : PySem.W.findIn K (.ref c_Reader) "_mark" = some none)
    (x38 : PySem.W.findIn K (.ref c_Reader) "_inner" = some none)
    (x39 : PySem.W.findIn K (.ref c_Reader) "_order" = some none)
    (x40 : PySem.W.findIn K (.ref c_Reader) "_states" = some none)
    (x41 : PySem.W.readsIn K c_Reader (.type "type") = true)
    (x42 : PySem.W.specialIn K (.ref c_Reader) "__getattribute__" = some (some (.builtin "type.__getattribute__")))
    (x43 : PySem.W.findCls K (.ref c_Reader) (.type "type") "MOST_STATES" = some (.val (.int 6 u_Reader_MOST_STATES)))
    (x44 : PySem.W.findCls K (.ref c_Reader) (.type "type") "MOST_ASK" = some (.val (.int 9 u_Reader_MOST_ASK)))
    (x45 : PySem.W.isClsIn K c_Reader = true)
    (x46 : PySem.W.typeIn K (.ref c_Reader) = some (.type "type"))
    (x47 : PySem.W.nsIn K kD19 "inner" = some (some (.str "up" tk19_inner)))
    (x48 : PySem.W.nsIn K kD19 "order" = some (some (.str "number" tk19_order)))
    (x49 : PySem.W.findCls K (.ref c_Reader) (.type "type") "MARKS" = some (.val (.ref ct_Reader_MARKS)))
    (x50 : K.lookup ct_Reader_MARKS = some ⟨.type "tuple", co_Reader_MARKS, .seq #[.str "key" wReader_MARKS_0, .str "from" wReader_MARKS_1, .str "row" wReader_MARKS_2, .str "each" wReader_MARKS_3, .str "count" wReader_MARKS_4, .str "rest" wReader_MARKS_5] cn_Reader_MARKS, cs_Reader_MARKS⟩)
    (x51 : PySem.W.findCls K (.ref c_Reader) (.type "type") "INNER" = some (.val (.ref ct_Reader_INNER)))
    (x52 : K.lookup ct_Reader_INNER = some ⟨.type "tuple", co_Reader_INNER, .seq #[.str "up" wReader_INNER_0, .str "down" wReader_INNER_1] cn_Reader_INNER, cs_Reader_INNER⟩)
    (x53 : PySem.W.findCls K (.ref c_Reader) (.type "type") "ORDERS" = some (.val (.ref ct_Reader_ORDERS)))
    (x54 : K.lookup ct_Reader_ORDERS = some ⟨.type "tuple", co_Reader_ORDERS, .seq #[.str "number" wReader_ORDERS_0, .str "back" wReader_ORDERS_1, .str "part" wReader_ORDERS_2] cn_Reader_ORDERS, cs_Reader_ORDERS⟩)
    (x55 : xcB K c_InvalidStanding fn2 ["code", "at", "number", "name", "line", "most", "first", "limit", "given"] = true)
    (x56 : PySem.W.exmAny K (.ref c_InvalidStanding) [.ref c_PartError, .ref c_Missing, .ref c_NothingLeft] = some true)
    (x57 : K.lookup cL = some ⟨ceL, cdL, .fields cvL, csL⟩)
    (x58 : cvL[11]? = some (.ref pL))
    (x59 : K.lookup pL = none)
    (x60 : PySem.W.codeHdIn K cL pL = true) :
    LamX.OwnTab K fa h → LamX.LawAtS l w K CX0 44 63 "_law_script" mg fa h := by
  intro own
  have e := hfa.symm.trans (PySem.W.mg_of X G a41)
  cases e
  let T : Txt K mg :=
    { f_copied := fn1, fd_copied := (PySem.W.fnOf "copied" "copied" (defArgs s_copied) (defBody s_copied) (defScope s_copied) .none kV1 dc1 pm1 an1 cd1 ct1), F_copied := (fun_mk (st := s_copied) l1 e1 k1), k_copied := k1,
      g_copied := PySem.W.mg_of X G a1,
      bd_copied := ((fun_mk (st := s_copied) l1 e1 k1).binds (ps := ["value"]) fun _ _ _ _ _ _ us hl => match us, hl with | [_], _ => rfl),
      f_InvalidStanding_init := fn2, fd_InvalidStanding_init := (PySem.W.fnOf "__init__" "InvalidStanding.__init__" (defArgs s_InvalidStanding_init) (defBody s_InvalidStanding_init) (defScope s_InvalidStanding_init) .none kV2 dc2 pm2 an2 cd2 ct2), F_InvalidStanding_init := (fun_mk (st := s_InvalidStanding_init) l2 e2 k2), k_InvalidStanding_init := k2,
      bd_InvalidStanding_init := ((fun_mk (st := s_InvalidStanding_init) l2 e2 k2).binds (ps := ["self", "given"]) fun _ _ _ _ _ _ us hl => match us, hl with | [_, _], _ => rfl),
      f_is_whole := fn3, fd_is_whole := (PySem.W.fnOf "is_whole" "is_whole" (defArgs s_is_whole) (defBody s_is_whole) (defScope s_is_whole) .none kV3 dc3 pm3 an3 cd3 ct3), F_is_whole := (fun_mk (st := s_is_whole) l3 e3 k3), k_is_whole := k3,
      g_is_whole := PySem.W.mg_of X G a3,
      bd_is_whole := ((fun_mk (st := s_is_whole) l3 e3 k3).binds (ps := ["value"]) fun _ _ _ _ _ _ us hl => match us, hl with | [_], _ => rfl),
      f_is_number := fn4, fd_is_number := (PySem.W.fnOf "is_number" "is_number" (defArgs s_is_number) (defBody s_is_number) (defScope s_is_number) .none kV4 dc4 pm4 an4 cd4 ct4), F_is_number := (fun_mk (st := s_is_number) l4 e4 k4), k_is_number := k4,
      g_is_number := PySem.W.mg_of X G a4,
      bd_is_number := ((fun_mk (st := s_is_number) l4 e4 k4).binds (ps := ["value", "least", "most"]) fun _ _ _ _ _ _ us hl => match us, hl with | [_, _, _], _ => rfl),
      f__are_live := fn5, fd__are_live := (PySem.W.fnOf "_are_live" "_are_live" (defArgs s__are_live) (defBody s__are_live) (defScope s__are_live) .none kV5 dc5 pm5 an5 cd5 ct5), F__are_live := (fun_mk (st := s__are_live) l5 e5 k5), k__are_live := k5,
      g__are_live := PySem.W.mg_of X G a5,
      bd__are_live := ((fun_mk (st := s__are_live) l5 e5 k5).binds (ps := ["value", "parts"]) fun _ _ _ _ _ _ us hl => match us, hl with | [_, _], _ => rfl),
      f_is_standing := fn6, fd_is_standing := (PySem.W.fnOf "is_standing" "is_standing" (defArgs s_is_standing) (defBody s_is_standing) (defScope s_is_standing) .none kV6 dc6 pm6 an6 cd6 ct6), F_is_standing := (fun_mk (st := s_is_standing) l6 e6 k6), k_is_standing := k6,
      g_is_standing := PySem.W.mg_of X G a6,
      bd_is_standing := ((fun_mk (st := s_is_standing) l6 e6 k6).binds (ps := ["reader", "value"]) fun _ _ _ _ _ _ us hl => match us, hl with | [_, _], _ => rfl),
      f__check_standing := fn7, fd__check_standing := (PySem.W.fnOf "_check_standing" "_check_standing" (defArgs s__check_standing) (defBody s__check_standing) (defScope s__check_standing) .none kV7 dc7 pm7 an7 cd7 ct7), F__check_standing := (fun_mk (st := s__check_standing) l7 e7 k7), k__check_standing := k7,
      g__check_standing := PySem.W.mg_of X G a7,
      bd__check_standing := ((fun_mk (st := s__check_standing) l7 e7 k7).binds (ps := ["reader", "value"]) fun _ _ _ _ _ _ us hl => match us, hl with | [_, _], _ => rfl),
      f__subsets := fn8, fd__subsets := (PySem.W.fnOf "_subsets" "_subsets" (defArgs s__subsets) (defBody s__subsets) (defScope s__subsets) .none kV8 dc8 pm8 an8 cd8 ct8), F__subsets := (fun_mk (st := s__subsets) l8 e8 k8), k__subsets := k8,
      g__subsets := PySem.W.mg_of X G a8,
      bd__subsets := ((fun_mk (st := s__subsets) l8 e8 k8).binds (ps := ["parts"]) fun _ _ _ _ _ _ us hl => match us, hl with | [_], _ => rfl),
      f__asked := fn9, fd__asked := (PySem.W.fnOf "_asked" "_asked" (defArgs s__asked) (defBody s__asked) (defScope s__asked) .none kV9 dc9 pm9 an9 cd9 ct9), F__asked := (fun_mk (st := s__asked) l9 e9 k9), k__asked := k9,
      g__asked := PySem.W.mg_of X G a9,
      bd__asked := ((fun_mk (st := s__asked) l9 e9 k9).binds (ps := ["asks", "parts"]) fun _ _ _ _ _ _ us hl => match us, hl with | [_, _], _ => rfl),
      f_first_standing := fn10, fd_first_standing := (PySem.W.fnOf "first_standing" "first_standing" (defArgs s_first_standing) (defBody s_first_standing) (defScope s_first_standing) .none kV10 dc10 pm10 an10 cd10 ct10), F_first_standing := (fun_mk (st := s_first_standing) l10 e10 k10), k_first_standing := k10,
      g_first_standing := PySem.W.mg_of X G a10,
      bd_first_standing := ((fun_mk (st := s_first_standing) l10 e10 k10).binds (ps := ["reader"]) fun _ _ _ _ _ _ us hl => match us, hl with | [_], _ => rfl),
      f_p_steps := fn11, fd_p_steps := (PySem.W.fnOf "steps" "steps" (defArgs s_p_steps) (defBody s_p_steps) (defScope s_p_steps) .none kV11 dc11 pm11 an11 cd11 ct11), F_p_steps := (fun_mk (st := s_p_steps) l11 e11 k11), k_p_steps := k11,
      g_p_steps := PySem.W.mg_of X G a11,
      bd_p_steps := ((fun_mk (st := s_p_steps) l11 e11 k11).binds (ps := ["reader", "standing"]) fun _ _ _ _ _ _ us hl => match us, hl with | [_, _], _ => rfl),
      f_kinds_at := fn12, fd_kinds_at := (PySem.W.fnOf "kinds_at" "kinds_at" (defArgs s_kinds_at) (defBody s_kinds_at) (defScope s_kinds_at) .none kV12 dc12 pm12 an12 cd12 ct12), F_kinds_at := (fun_mk (st := s_kinds_at) l12 e12 k12), k_kinds_at := k12,
      g_kinds_at := PySem.W.mg_of X G a12,
      bd_kinds_at := ((fun_mk (st := s_kinds_at) l12 e12 k12).binds (ps := ["reader", "standing"]) fun _ _ _ _ _ _ us hl => match us, hl with | [_, _], _ => rfl),
      f__is_ask := fn13, fd__is_ask := (PySem.W.fnOf "_is_ask" "_is_ask" (defArgs s__is_ask) (defBody s__is_ask) (defScope s__is_ask) .none kV13 dc13 pm13 an13 cd13 ct13), F__is_ask := (fun_mk (st := s__is_ask) l13 e13 k13), k__is_ask := k13,
      g__is_ask := PySem.W.mg_of X G a13,
      bd__is_ask := ((fun_mk (st := s__is_ask) l13 e13 k13).binds (ps := ["value"]) fun _ _ _ _ _ _ us hl => match us, hl with | [_], _ => rfl),
      f__are_asks := fn14, fd__are_asks := (PySem.W.fnOf "_are_asks" "_are_asks" (defArgs s__are_asks) (defBody s__are_asks) (defScope s__are_asks) .none kV14 dc14 pm14 an14 cd14 ct14), F__are_asks := (fun_mk (st := s__are_asks) l14 e14 k14), k__are_asks := k14,
      g__are_asks := PySem.W.mg_of X G a14,
      bd__are_asks := ((fun_mk (st := s__are_asks) l14 e14 k14).binds (ps := ["value"]) fun _ _ _ _ _ _ us hl => match us, hl with | [_], _ => rfl),
      f__is_following := fn15, fd__is_following := (PySem.W.fnOf "_is_following" "_is_following" (defArgs s__is_following) (defBody s__is_following) (defScope s__is_following) .none kV15 dc15 pm15 an15 cd15 ct15), F__is_following := (fun_mk (st := s__is_following) l15 e15 k15), k__is_following := k15,
      g__is_following := PySem.W.mg_of X G a15,
      bd__is_following := ((fun_mk (st := s__is_following) l15 e15 k15).binds (ps := ["value", "many"]) fun _ _ _ _ _ _ us hl => match us, hl with | [_, _], _ => rfl),
      f__is_state := fn16, fd__is_state := (PySem.W.fnOf "is_state" "is_state" (defArgs s__is_state) (defBody s__is_state) (defScope s__is_state) .none kV16 dc16 pm16 an16 cd16 ct16), F__is_state := (fun_mk (st := s__is_state) l16 e16 k16), k__is_state := k16,
      g__is_state := PySem.W.mg_of X G a16,
      bd__is_state := ((fun_mk (st := s__is_state) l16 e16 k16).binds (ps := ["value", "many"]) fun _ _ _ _ _ _ us hl => match us, hl with | [_, _], _ => rfl),
      f_check_orders := fn17, fd_check_orders := (PySem.W.fnOf "check_orders" "check_orders" (defArgs s_check_orders) (defBody s_check_orders) (defScope s_check_orders) .none kV17 dc17 pm17 an17 cd17 ct17), F_check_orders := (fun_mk (st := s_check_orders) l17 e17 k17), k_check_orders := k17,
      g_check_orders := PySem.W.mg_of X G a17,
      bd_check_orders := ((fun_mk (st := s_check_orders) l17 e17 k17).binds (ps := ["inner", "order"]) fun _ _ _ _ _ _ us hl => match us, hl with | [_, _], _ => rfl),
      f__check_states := fn18, fd__check_states := (PySem.W.fnOf "_check_states" "_check_states" (defArgs s__check_states) (defBody s__check_states) (defScope s__check_states) .none kV18 dc18 pm18 an18 cd18 ct18), F__check_states := (fun_mk (st := s__check_states) l18 e18 k18), k__check_states := k18,
      g__check_states := PySem.W.mg_of X G a18,
      bd__check_states := ((fun_mk (st := s__check_states) l18 e18 k18).binds (ps := ["states"]) fun _ _ _ _ _ _ us hl => match us, hl with | [_], _ => rfl),
      f_Reader_init := fn19, fd_Reader_init := (PySem.W.fnOf "__init__" "Reader.__init__" (defArgs s_Reader_init) (defBody s_Reader_init) (defScope s_Reader_init) .none (.ref kD19) dc19 pm19 an19 cd19 ct19), F_Reader_init := (fun_mk (st := s_Reader_init) l19 e19 k19), k_Reader_init := k19,
      FD_Reader_init := ⟨⟨_, _, _, _, _, _, _, _, _, _, rfl, l19, e19, .inl ⟨rfl, rfl⟩, .inr ⟨_, rfl, fun q hq => (by
        simp only [List.mem_cons, List.not_mem_nil, or_false] at hq
        rcases hq with rfl | rfl
        · exact ⟨_, x47, ⟨_, rfl⟩⟩
        · exact ⟨_, x48, ⟨_, rfl⟩⟩)⟩⟩, k19⟩,
      f_Reader_mark := fn20, fd_Reader_mark := (PySem.W.fnOf "mark" "Reader.mark" (defArgs s_Reader_mark) (defBody s_Reader_mark) (defScope s_Reader_mark) .none kV20 dc20 pm20 an20 cd20 ct20), F_Reader_mark := (fun_mk (st := s_Reader_mark) l20 e20 k20), k_Reader_mark := k20,
      bd_Reader_mark := ((fun_mk (st := s_Reader_mark) l20 e20 k20).binds (ps := ["self"]) fun _ _ _ _ _ _ us hl => match us, hl with | [_], _ => rfl),
      f_Reader_inner := fn21, fd_Reader_inner := (PySem.W.fnOf "inner" "Reader.inner" (defArgs s_Reader_inner) (defBody s_Reader_inner) (defScope s_Reader_inner) .none kV21 dc21 pm21 an21 cd21 ct21), F_Reader_inner := (fun_mk (st := s_Reader_inner) l21 e21 k21), k_Reader_inner := k21,
      bd_Reader_inner := ((fun_mk (st := s_Reader_inner) l21 e21 k21).binds (ps := ["self"]) fun _ _ _ _ _ _ us hl => match us, hl with | [_], _ => rfl),
      f_Reader_order := fn22, fd_Reader_order := (PySem.W.fnOf "order" "Reader.order" (defArgs s_Reader_order) (defBody s_Reader_order) (defScope s_Reader_order) .none kV22 dc22 pm22 an22 cd22 ct22), F_Reader_order := (fun_mk (st := s_Reader_order) l22 e22 k22), k_Reader_order := k22,
      bd_Reader_order := ((fun_mk (st := s_Reader_order) l22 e22 k22).binds (ps := ["self"]) fun _ _ _ _ _ _ us hl => match us, hl with | [_], _ => rfl),
      f_Reader_parts := fn23, fd_Reader_parts := (PySem.W.fnOf "parts" "Reader.parts" (defArgs s_Reader_parts) (defBody s_Reader_parts) (defScope s_Reader_parts) .none kV23 dc23 pm23 an23 cd23 ct23), F_Reader_parts := (fun_mk (st := s_Reader_parts) l23 e23 k23), k_Reader_parts := k23,
      bd_Reader_parts := ((fun_mk (st := s_Reader_parts) l23 e23 k23).binds (ps := ["self"]) fun _ _ _ _ _ _ us hl => match us, hl with | [_], _ => rfl),
      f_Reader_states := fn24, fd_Reader_states := (PySem.W.fnOf "states" "Reader.states" (defArgs s_Reader_states) (defBody s_Reader_states) (defScope s_Reader_states) .none kV24 dc24 pm24 an24 cd24 ct24), F_Reader_states := (fun_mk (st := s_Reader_states) l24 e24 k24), k_Reader_states := k24,
      bd_Reader_states := ((fun_mk (st := s_Reader_states) l24 e24 k24).binds (ps := ["self"]) fun _ _ _ _ _ _ us hl => match us, hl with | [_], _ => rfl),
      f_Reader_len := fn25, fd_Reader_len := (PySem.W.fnOf "__len__" "Reader.__len__" (defArgs s_Reader_len) (defBody s_Reader_len) (defScope s_Reader_len) .none kV25 dc25 pm25 an25 cd25 ct25), F_Reader_len := (fun_mk (st := s_Reader_len) l25 e25 k25), k_Reader_len := k25,
      bd_Reader_len := ((fun_mk (st := s_Reader_len) l25 e25 k25).binds (ps := ["self"]) fun _ _ _ _ _ _ us hl => match us, hl with | [_], _ => rfl),
      f_open := fn26, fd_open := (PySem.W.fnOf "_law_open" "_law_open" (defArgs s_open) (defBody s_open) (defScope s_open) .none kV26 dc26 pm26 an26 cd26 ct26), F_open := (fun_mk (st := s_open) l26 e26 k26), k_open := k26,
      g_open := PySem.W.mg_of X G a26,
      bd_open := ((fun_mk (st := s_open) l26 e26 k26).binds (ps := ["_law_script"]) fun _ _ _ _ _ _ us hl => match us, hl with | [_], _ => rfl),
      f_draw := fn27, fd_draw := (PySem.W.fnOf "_law_draw" "_law_draw" (defArgs s_draw) (defBody s_draw) (defScope s_draw) .none kV27 dc27 pm27 an27 cd27 ct27), F_draw := (fun_mk (st := s_draw) l27 e27 k27), k_draw := k27,
      g_draw := PySem.W.mg_of X G a27,
      bd_draw := ((fun_mk (st := s_draw) l27 e27 k27).binds (ps := ["_law_bag", "_law_many"]) fun _ _ _ _ _ _ us hl => match us, hl with | [_, _], _ => rfl),
      f_of := fn28, fd_of := (PySem.W.fnOf "_law_of" "_law_of" (defArgs s_of) (defBody s_of) (defScope s_of) .none kV28 dc28 pm28 an28 cd28 ct28), F_of := (fun_mk (st := s_of) l28 e28 k28), k_of := k28,
      g_of := PySem.W.mg_of X G a28,
      bd_of := ((fun_mk (st := s_of) l28 e28 k28).binds (ps := ["_law_bag", "_law_things"]) fun _ _ _ _ _ _ us hl => match us, hl with | [_, _], _ => rfl),
      f_like := fn29, fd_like := (PySem.W.fnOf "_law_like" "_law_like" (defArgs s_like) (defBody s_like) (defScope s_like) .none kV29 dc29 pm29 an29 cd29 ct29), F_like := (fun_mk (st := s_like) l29 e29 k29), k_like := k29,
      g_like := PySem.W.mg_of X G a29,
      bd_like := ((fun_mk (st := s_like) l29 e29 k29).binds (ps := ["_law_found", "_law_due"]) fun _ _ _ _ _ _ us hl => match us, hl with | [_, _], _ => rfl),
      f_field := fn30, fd_field := (PySem.W.fnOf "_law_field" "_law_field" (defArgs s_field) (defBody s_field) (defScope s_field) .none kV30 dc30 pm30 an30 cd30 ct30), F_field := (fun_mk (st := s_field) l30 e30 k30), k_field := k30,
      g_field := PySem.W.mg_of X G a30,
      bd_field := ((fun_mk (st := s_field) l30 e30 k30).binds (ps := ["_law_e"]) fun _ _ _ _ _ _ us hl => match us, hl with | [_], _ => rfl),
      f_try := fn31, fd_try := (PySem.W.fnOf "_law_try" "_law_try" (defArgs s_try) (defBody s_try) (defScope s_try) .none kV31 dc31 pm31 an31 cd31 ct31), F_try := (fun_mk (st := s_try) l31 e31 k31), k_try := k31,
      g_try := PySem.W.mg_of X G a31,
      bd_try := ((fun_mk (st := s_try) l31 e31 k31).binds (ps := ["_law_ask"]) fun _ _ _ _ _ _ us hl => match us, hl with | [_], _ => rfl),
      f_tries := fn32, fd_tries := (PySem.W.fnOf "_law_tries" "_law_tries" (defArgs s_tries) (defBody s_tries) (defScope s_tries) .none kV32 dc32 pm32 an32 cd32 ct32), F_tries := (fun_mk (st := s_tries) l32 e32 k32), k_tries := k32,
      g_tries := PySem.W.mg_of X G a32,
      bd_tries := ((fun_mk (st := s_tries) l32 e32 k32).binds (ps := ["_law_asks"]) fun _ _ _ _ _ _ us hl => match us, hl with | [_], _ => rfl),
      f_state := fn33, fd_state := (PySem.W.fnOf "_law_state" "_law_state" (defArgs s_state) (defBody s_state) (defScope s_state) .none kV33 dc33 pm33 an33 cd33 ct33), F_state := (fun_mk (st := s_state) l33 e33 k33), k_state := k33,
      g_state := PySem.W.mg_of X G a33,
      bd_state := ((fun_mk (st := s_state) l33 e33 k33).binds (ps := ["_law_bag", "_law_parts", "_law_many"]) fun _ _ _ _ _ _ us hl => match us, hl with | [_, _, _], _ => rfl),
      f_spec := fn34, fd_spec := (PySem.W.fnOf "_law_spec" "_law_spec" (defArgs s_spec) (defBody s_spec) (defScope s_spec) .none kV34 dc34 pm34 an34 cd34 ct34), F_spec := (fun_mk (st := s_spec) l34 e34 k34), k_spec := k34,
      g_spec := PySem.W.mg_of X G a34,
      bd_spec := ((fun_mk (st := s_spec) l34 e34 k34).binds (ps := ["_law_bag", "_law_parts", "_law_most"]) fun _ _ _ _ _ _ us hl => match us, hl with | [_, _, _], _ => rfl),
      f_good_spec := fn35, fd_good_spec := (PySem.W.fnOf "_law_good_spec" "_law_good_spec" (defArgs s_good_spec) (defBody s_good_spec) (defScope s_good_spec) .none kV35 dc35 pm35 an35 cd35 ct35), F_good_spec := (fun_mk (st := s_good_spec) l35 e35 k35), k_good_spec := k35,
      g_good_spec := PySem.W.mg_of X G a35,
      bd_good_spec := ((fun_mk (st := s_good_spec) l35 e35 k35).binds (ps := ["_law_bag", "_law_parts", "_law_most"]) fun _ _ _ _ _ _ us hl => match us, hl with | [_, _, _], _ => rfl),
      f_reader := fn36, fd_reader := (PySem.W.fnOf "_law_reader" "_law_reader" (defArgs s_reader) (defBody s_reader) (defScope s_reader) .none kV36 dc36 pm36 an36 cd36 ct36), F_reader := (fun_mk (st := s_reader) l36 e36 k36), k_reader := k36,
      g_reader := PySem.W.mg_of X G a36,
      bd_reader := ((fun_mk (st := s_reader) l36 e36 k36).binds (ps := ["_law_spec_here"]) fun _ _ _ _ _ _ us hl => match us, hl with | [_], _ => rfl),
      f_any_spec := fn37, fd_any_spec := (PySem.W.fnOf "_law_any_spec" "_law_any_spec" (defArgs s_any_spec) (defBody s_any_spec) (defScope s_any_spec) .none kV37 dc37 pm37 an37 cd37 ct37), F_any_spec := (fun_mk (st := s_any_spec) l37 e37 k37), k_any_spec := k37,
      g_any_spec := PySem.W.mg_of X G a37,
      bd_any_spec := ((fun_mk (st := s_any_spec) l37 e37 k37).binds (ps := ["_law_bag", "_law_parts", "_law_most"]) fun _ _ _ _ _ _ us hl => match us, hl with | [_, _, _], _ => rfl),
      f_steps := fn38, fd_steps := (PySem.W.fnOf "_law_steps" "_law_steps" (defArgs s_steps) (defBody s_steps) (defScope s_steps) .none kV38 dc38 pm38 an38 cd38 ct38), F_steps := (fun_mk (st := s_steps) l38 e38 k38), k_steps := k38,
      g_steps := PySem.W.mg_of X G a38,
      bd_steps := ((fun_mk (st := s_steps) l38 e38 k38).binds (ps := ["_law_spec_here", "_law_standing_z"]) fun _ _ _ _ _ _ us hl => match us, hl with | [_, _], _ => rfl),
      f_some_standing := fn39, fd_some_standing := (PySem.W.fnOf "_law_some_standing" "_law_some_standing" (defArgs s_some_standing) (defBody s_some_standing) (defScope s_some_standing) .none kV39 dc39 pm39 an39 cd39 ct39), F_some_standing := (fun_mk (st := s_some_standing) l39 e39 k39), k_some_standing := k39,
      g_some_standing := PySem.W.mg_of X G a39,
      bd_some_standing := ((fun_mk (st := s_some_standing) l39 e39 k39).binds (ps := ["_law_bag", "_law_spec_here"]) fun _ _ _ _ _ _ us hl => match us, hl with | [_, _], _ => rfl),
      f_no_standing := fn40, fd_no_standing := (PySem.W.fnOf "_law_no_standing" "_law_no_standing" (defArgs s_no_standing) (defBody s_no_standing) (defScope s_no_standing) .none kV40 dc40 pm40 an40 cd40 ct40), F_no_standing := (fun_mk (st := s_no_standing) l40 e40 k40), k_no_standing := k40,
      g_no_standing := PySem.W.mg_of X G a40,
      bd_no_standing := ((fun_mk (st := s_no_standing) l40 e40 k40).binds (ps := ["_law_bag", "_law_spec_here"]) fun _ _ _ _ _ _ us hl => match us, hl with | [_, _], _ => rfl),
      f_law := fa, fd_law := (PySem.W.fnOf "law" "law" (defArgs s_law) (defBody s_law) (defScope s_law) .none kV41 dc41 pm41 an41 (.ref cL) ct41), F_law := (fun_mk (st := s_law) l41 e41 k41), k_law := k41,
      g_law := PySem.W.mg_of X G a41,
      bd_law := ((fun_mk (st := s_law) l41 e41 k41).binds (ps := ["_law_script"]) fun _ _ _ _ _ _ us hl => match us, hl with | [_], _ => rfl),
      b_all := PySem.W.mg_none_of X G z1,
      b_bool := PySem.W.mg_none_of X G z2,
      b_enumerate := PySem.W.mg_none_of X G z3,
      b_int := PySem.W.mg_none_of X G z4,
      b_isinstance := PySem.W.mg_none_of X G z5,
      b_len := PySem.W.mg_none_of X G z6,
      b_list := PySem.W.mg_none_of X G z7,
      b_range := PySem.W.mg_none_of X G z8,
      b_set := PySem.W.mg_none_of X G z9,
      b_sorted := PySem.W.mg_none_of X G z10,
      b_str := PySem.W.mg_none_of X G z11,
      b_sum := PySem.W.mg_none_of X G z12,
      b_tuple := PySem.W.mg_none_of X G z13,
      b_zip := PySem.W.mg_none_of X G z14,
      t__MOST_SIZE := t__MOST_SIZE,
      g__MOST_SIZE := PySem.W.mg_of X G x1,
      c_Table := c_Table,
      g_Table := PySem.W.mg_of X G y_Table,
      cf_Table := ⟨⟨x2, x3, x4, x5⟩, x6, x7, x8, x9⟩,
      mc_Table := .type "type",
      cr_Table := ⟨x10, x11⟩,
      cv_Table_MOST_PARTS := ⟨.int 4 u_Table_MOST_PARTS, x12, ⟨_, rfl⟩⟩,
      c_Reader := c_Reader,
      g_Reader := PySem.W.mg_of X G y_Reader,
      cf_Reader := ⟨⟨x15, x16, x17, x18⟩, x19, x20, x21, x22⟩,
      mk_Reader := ⟨x23, x24, x25, x26⟩,
      m_Reader_states := ⟨a24, x27, k24⟩,
      dn_Reader_len := a25,
      fn_Reader_len := x28,
      p_Reader_mark := p_Reader_mark,
      pr_Reader_mark := ⟨b20, x29, x30, _, a20⟩,
      p_Reader_inner := p_Reader_inner,
      pr_Reader_inner := ⟨b21, x31, x32, _, a21⟩,
      p_Reader_order := p_Reader_order,
      pr_Reader_order := ⟨b22, x33, x34, _, a22⟩,
      p_Reader_parts := p_Reader_parts,
      pr_Reader_parts := ⟨b23, x35, x36, _, a23⟩,
      na_Reader_mark := x37,
      na_Reader_inner := x38,
      na_Reader_order := x39,
      na_Reader_states := x40,
      mc_Reader := .type "type",
      cr_Reader := ⟨x41, x42⟩,
      cv_Reader_MOST_STATES := ⟨.int 6 u_Reader_MOST_STATES, x43, ⟨_, rfl⟩⟩,
      cv_Reader_MOST_ASK := ⟨.int 9 u_Reader_MOST_ASK, x44, ⟨_, rfl⟩⟩,
      ct_Reader_MARKS := ⟨_, _, ⟨x49, rfl⟩, fun H => .inr ⟨_, _, _, x50, rfl, rfl, sz_of (Nat.le_of_ble_eq_true rfl), (.cons ⟨_, rfl⟩ (.cons ⟨_, rfl⟩ (.cons ⟨_, rfl⟩ (.cons ⟨_, rfl⟩ (.cons ⟨_, rfl⟩ (.cons ⟨_, rfl⟩ .nil))))))⟩⟩,
      ct_Reader_INNER := ⟨_, _, ⟨x51, rfl⟩, fun H => .inr ⟨_, _, _, x52, rfl, rfl, sz_of (Nat.le_of_ble_eq_true rfl), (.cons ⟨_, rfl⟩ (.cons ⟨_, rfl⟩ .nil))⟩⟩,
      ct_Reader_ORDERS := ⟨_, _, ⟨x53, rfl⟩, fun H => .inr ⟨_, _, _, x54, rfl, rfl, sz_of (Nat.le_of_ble_eq_true rfl), (.cons ⟨_, rfl⟩ (.cons ⟨_, rfl⟩ (.cons ⟨_, rfl⟩ .nil)))⟩⟩,
      c_PartError := c_PartError,
      g_PartError := PySem.W.mg_of X G y_PartError,
      c_Missing := c_Missing,
      g_Missing := PySem.W.mg_of X G y_Missing,
      c_NothingLeft := c_NothingLeft,
      g_NothingLeft := PySem.W.mg_of X G y_NothingLeft,
      c_InvalidStanding := c_InvalidStanding,
      g_InvalidStanding := PySem.W.mg_of X G y_InvalidStanding,
      xa_InvalidStanding := xcB_ok x55,
      ex_InvalidStanding := x56,
      cL := cL,
      pL := pL,
      FC_law := ⟨⟨_, _, _, _, _, _, _, _, rfl, l41, e41⟩⟩ }
  refine ⟨T.fd_law, [(cL, pL)], spLawT K pL, fun p hp => ?_, fun p hp => ?_, fun p hp => ?_, fun s v => .of_eq rfl, fun H a ns hl hb hH hS => ⟨a, ns, rfl, hS, hl, hH (cL, pL) (by simp), fun _ => rfl⟩, fun base _ _ TB => ok_law T (TB (cL, pL) (by simp))⟩
  · rw [List.mem_singleton.mp hp]
    exact own cL pL _ _ _ _ _ _ l41 rfl rfl x57 x58
  · rw [List.mem_singleton.mp hp]
    exact x59
  · rw [List.mem_singleton.mp hp]
    exact PySem.W.codeHd_of_K X x60
theorem walk {l : PySem.W.OpenLaw} {q : Program} {loose : List Str} {XP : (Str → Option Value) → Heap → Prop} {YP : World → Heap → Prop} {d : DefRec} {K : Params → PySem.W.Frag} (hn : l.most = some 63) (hdf : d.params.defaults = []) (hrec : ((PyProof.Rows.recsOf q).any fun e => e.name == d.name) = true)
    (hY : ∀ (w : World) (h : Heap), YP w h → (K w.params).In h)
    (F : ∀ (w : World) (mg : Str → Option Value) (fa : Addr) (h : Heap), (K w.params).In h → h.Ns mainGlobals mg → mg d.name = some (.ref fa) → LamX.OwnTab (K w.params) fa h → LamX.LawAtS l w (K w.params) CX0 44 63 "_law_script" mg fa h) :
    PySem.W.WalkO q loose XP YP l.row.toRowW d [] (fun f vs => PySem.call f vs) :=
  LamX.walk_ofOwn (n := 63) (k := 44) (x := "_law_script") (CX := fun _ => CX0) hn (by decide) hdf ⟨rfl, by decide, by decide⟩ hrec hY (fun w mg fa h _ => F w mg fa h) fun _ _ _ _ _ z => z
end Pf
open PySem PySem.W PyProof.Rows
set_option maxRecDepth 100000 in
set_option maxHeartbeats 0 in
theorem PySem.Challenge.cw_partfirsts_k24_steps_of_standings_holds : PySem.Challenge.rw_partfirsts_k24_steps_of_standings.Holds := by
  w_on; o_law; k_head; (case hw => w_witness2)
  k_fill
  refine Pf.walk (l := PySem.Challenge.rw_partfirsts_k24_steps_of_standings) rfl rfl (by first | rfl | decide +kernel) (fun w h Y => PySem.W.km_in_of Y) ?F
  case F =>
    intro w mg fa h KX G hmg own
    refine' Pf.all_mk KX G hmg ?y_Table ?y_Reader ?y_PartError ?y_Missing ?y_NothingLeft ?y_InvalidStanding ?a1 ?l1 ?e1 ?k1 ?a2 ?l2 ?e2 ?k2 ?a3 ?l3 ?e3 ?k3 ?a4 ?l4 ?e4 ?k4 ?a5 ?l5 ?e5 ?k5 ?a6 ?l6 ?e6 ?k6 ?a7 ?l7 ?e7 ?k7 ?a8 ?l8 ?e8 ?k8 ?a9 ?l9 ?e9 ?k9 ?a10 ?l10 ?e10 ?k10 ?a11 ?l11 ?e11 ?k11 ?a12 ?l12 ?e12 ?k12 ?a13 ?l13 ?e13 ?k13 ?a14 ?l14 ?e14 ?k14 ?a15 ?l15 ?e15 ?k15 ?a16 ?l16 ?e16 ?k16 ?a17 ?l17 ?e17 ?k17 ?a18 ?l18 ?e18 ?k18 ?a19 ?l19 ?e19 ?k19 ?b20 ?a20 ?l20 ?e20 ?k20 ?b21 ?a21 ?l21 ?e21 ?k21 ?b22 ?a22 ?l22 ?e22 ?k22 ?b23 ?a23 ?l23 ?e23 ?k23 ?a24 ?l24 ?e24 ?k24 ?a25 ?l25 ?e25 ?k25 ?a26 ?l26 ?e26 ?k26 ?a27 ?l27 ?e27 ?k27 ?a28 ?l28 ?e28 ?k28 ?a29 ?l29 ?e29 ?k29 ?a30 ?l30 ?e30 ?k30 ?a31 ?l31 ?e31 ?k31 ?a32 ?l32 ?e32 ?k32 ?a33 ?l33 ?e33 ?k33 ?a34 ?l34 ?e34 ?k34 ?a35 ?l35 ?e35 ?k35 ?a36 ?l36 ?e36 ?k36 ?a37 ?l37 ?e37 ?k37 ?a38 ?l38 ?e38 ?k38 ?a39 ?l39 ?e39 ?k39 ?a40 ?l40 ?e40 ?k40 ?a41 ?l41 ?e41 ?k41 ?z1 ?z2 ?z3 ?z4 ?z5 ?z6 ?z7 ?z8 ?z9 ?z10 ?z11 ?z12 ?z13 ?z14 ?x1 ?x2 ?x3 ?x4 ?x5 ?x6 ?x7 ?x8 ?x9 ?x10 ?x11 ?x12 ?x13 ?x14 ?x15 ?x16 ?x17 ?x18 ?x19 ?x20 ?x21 ?x22 ?x23 ?x24 ?x25 ?x26 ?x27 ?x28 ?x29 ?x30 ?x31 ?x32 ?x33 ?x34 ?x35 ?x36 ?x37 ?x38 ?x39 ?x40 ?x41 ?x42 ?x43 ?x44 ?x45 ?x46 ?x47 ?x48 ?x49 ?x50 ?x51 ?x52 ?x53 ?x54 ?x55 ?x56 ?x57 ?x58 ?x59 ?x60 own
    (case y_Table => k_is)
    (case y_Reader => k_is)
    (case y_PartError => k_is)
    (case y_Missing => k_is)
    (case y_NothingLeft => k_is)
    (case y_InvalidStanding => k_is)
    (case a1 => k_is)
    (case l1 => k_is)
    (case e1 => k_is)
    (case k1 => k_is)
    (case a2 => k_is)
    (case l2 => k_is)
    (case e2 => k_is)
    (case k2 => k_is)
    (case a3 => k_is)
    (case l3 => k_is)
    (case e3 => k_is)
    (case k3 => k_is)
    (case a4 => k_is)
    (case l4 => k_is)
    (case e4 => k_is)
    (case k4 => k_is)
    (case a5 => k_is)
    (case l5 => k_is)
    (case e5 => k_is)
    (case k5 => k_is)
    (case a6 => k_is)
    (case l6 => k_is)
    (case e6 => k_is)
    (case k6 => k_is)
    (case a7 => k_is)
    (case l7 => k_is)
    (case e7 => k_is)
    (case k7 => k_is)
    (case a8 => k_is)
    (case l8 => k_is)
    (case e8 => k_is)
    (case k8 => k_is)
    (case a9 => k_is)
    (case l9 => k_is)
    (case e9 => k_is)
    (case k9 => k_is)
    (case a10 => k_is)
    (case l10 => k_is)
    (case e10 => k_is)
    (case k10 => k_is)
    (case a11 => k_is)
    (case l11 => k_is)
    (case e11 => k_is)
    (case k11 => k_is)
    (case a12 => k_is)
    (case l12 => k_is)
    (case e12 => k_is)
    (case k12 => k_is)
    (case a13 => k_is)
    (case l13 => k_is)
    (case e13 => k_is)
    (case k13 => k_is)
    (case a14 => k_is)
    (case l14 => k_is)
    (case e14 => k_is)
    (case k14 => k_is)
    (case a15 => k_is)
    (case l15 => k_is)
    (case e15 => k_is)
    (case k15 => k_is)
    (case a16 => k_is)
    (case l16 => k_is)
    (case e16 => k_is)
    (case k16 => k_is)
    (case a17 => k_is)
    (case l17 => k_is)
    (case e17 => k_is)
    (case k17 => k_is)
    (case a18 => k_is)
    (case l18 => k_is)
    (case e18 => k_is)
    (case k18 => k_is)
    (case a19 => k_is)
    (case l19 => k_is)
    (case e19 => k_is)
    (case k19 => k_is)
    (case b20 => k_is)
    (case a20 => k_is)
    (case l20 => k_is)
    (case e20 => k_is)
    (case k20 => k_is)
    (case b21 => k_is)
    (case a21 => k_is)
    (case l21 => k_is)
    (case e21 => k_is)
    (case k21 => k_is)
    (case b22 => k_is)
    (case a22 => k_is)
    (case l22 => k_is)
    (case e22 => k_is)
    (case k22 => k_is)
    (case b23 => k_is)
    (case a23 => k_is)
    (case l23 => k_is)
    (case e23 => k_is)
    (case k23 => k_is)
    (case a24 => k_is)
    (case l24 => k_is)
    (case e24 => k_is)
    (case k24 => k_is)
    (case a25 => k_is)
    (case l25 => k_is)
    (case e25 => k_is)
    (case k25 => k_is)
    (case a26 => k_is)
    (case l26 => k_is)
    (case e26 => k_is)
    (case k26 => k_is)
    (case a27 => k_is)
    (case l27 => k_is)
    (case e27 => k_is)
    (case k27 => k_is)
    (case a28 => k_is)
    (case l28 => k_is)
    (case e28 => k_is)
    (case k28 => k_is)
    (case a29 => k_is)
    (case l29 => k_is)
    (case e29 => k_is)
    (case k29 => k_is)
    (case a30 => k_is)
    (case l30 => k_is)
    (case e30 => k_is)
    (case k30 => k_is)
    (case a31 => k_is)
    (case l31 => k_is)
    (case e31 => k_is)
    (case k31 => k_is)
    (case a32 => k_is)
    (case l32 => k_is)
    (case e32 => k_is)
    (case k32 => k_is)
    (case a33 => k_is)
    (case l33 => k_is)
    (case e33 => k_is)
    (case k33 => k_is)
    (case a34 => k_is)
    (case l34 => k_is)
    (case e34 => k_is)
    (case k34 => k_is)
    (case a35 => k_is)
    (case l35 => k_is)
    (case e35 => k_is)
    (case k35 => k_is)
    (case a36 => k_is)
    (case l36 => k_is)
    (case e36 => k_is)
    (case k36 => k_is)
    (case a37 => k_is)
    (case l37 => k_is)
    (case e37 => k_is)
    (case k37 => k_is)
    (case a38 => k_is)
    (case l38 => k_is)
    (case e38 => k_is)
    (case k38 => k_is)
    (case a39 => k_is)
    (case l39 => k_is)
    (case e39 => k_is)
    (case k39 => k_is)
    (case a40 => k_is)
    (case l40 => k_is)
    (case e40 => k_is)
    (case k40 => k_is)
    (case a41 => k_is)
    (case l41 => k_is)
    (case e41 => k_is)
    (case k41 => k_is)
    (case z1 => k_is)
    (case z2 => k_is)
    (case z3 => k_is)
    (case z4 => k_is)
    (case z5 => k_is)
    (case z6 => k_is)
    (case z7 => k_is)
    (case z8 => k_is)
    (case z9 => k_is)
    (case z10 => k_is)
    (case z11 => k_is)
    (case z12 => k_is)
    (case z13 => k_is)
    (case z14 => k_is)
    (case x1 => k_is)
    (case x2 => k_is)
    (case x3 => k_is)
    (case x4 => k_is)
    (case x5 => k_is)
    (case x6 => k_is)
    (case x7 => k_is)
    (case x8 => k_is)
    (case x9 => k_is)
    (case x10 => k_is)
    (case x11 => k_is)
    (case x12 => k_is)
    (case x13 => k_is)
    (case x14 => k_is)
    (case x15 => k_is)
    (case x16 => k_is)
    (case x17 => k_is)
    (case x18 => k_is)
    (case x19 => k_is)
    (case x20 => k_is)
    (case x21 => k_is)
    (case x22 => k_is)
    (case x23 => k_is)
    (case x24 => k_is)
    (case x25 => k_is)
    (case x26 => k_is)
    (case x27 => k_is)
    (case x28 => k_is)
    (case x29 => k_is)
    (case x30 => k_is)
    (case x31 => k_is)
    (case x32 => k_is)
    (case x33 => k_is)
    (case x34 => k_is)
    (case x35 => k_is)
    (case x36 => k_is)
    (case x37 => k_is)
    (case x38 => k_is)
    (case x39 => k_is)
    (case x40 => k_is)
    (case x41 => k_is)
    (case x42 => k_is)
    (case x43 => k_is)
    (case x44 => k_is)
    (case x45 => k_is)
    (case x46 => k_is)
    (case x47 => k_is)
    (case x48 => k_is)
    (case x49 => k_is)
    (case x50 => k_is)
    (case x51 => k_is)
    (case x52 => k_is)
    (case x53 => k_is)
    (case x54 => k_is)
    (case x55 => kernel_rfl)
    (case x56 => kernel_rfl)
    (case x57 => k_is)
    (case x58 => rfl)
    (case x59 => kernel_rfl)
    (case x60 => kernel_rfl)
#print axioms PySem.Challenge.cw_partfirsts_k24_steps_of_standings_holds
