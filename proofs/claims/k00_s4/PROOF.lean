import PyProof.Rows.All
import Wide.All
import OpenK.AllK
import Wide.FinOn
import KE.KStateDown
import HandS.ForMost
import HandS.IsInst
import HandS.TupAny
import HandS.Conv
import HandS.Style
import HandS.More
import HandS.WordsExc
import HandS.Defaults
import HandS.MakeKwOnly
import HandS.EndBits
import HandS.Head0
import HandS.Head1
import HandS.Head2
import HandS.HeadEnd
import HandS.HeadHook1
import HandS.HeadHook2
import HandS.Walk
import HandS.Codes
import PySem.Challenge.RW_levelgifts_k00_names
set_option Elab.async false
set_option linter.all false
set_option maxRecDepth 100000
/-! The verifier's own layer: data apart from the store, what a draw keeps, calls by name, a few rules more. -/
namespace Lg
open PySem PySem.Spec PyProof.Rows L2

/-! ### calls by name -/
structure Own (P : Program) (w : World) (K : PySem.W.Frag) (mg : Str → Option Value) (base : Heap) (k : Nat) (x : Str) (ps : List Str) (sp : Sp) : Prop where
  ex : ∃ f fd, FnOk P w K mg base CX0 k f fd ps sp ∧ mg x = some (.ref f) ∧ PySem.W.keepIn K (.ref f) = true ∧ Binds K fd ps [] ∧ KBn K fd ps 0 ps (fun _ ws => ws) (fun _ zs => zs)
section
variable {X : Cx} {k : Nat} {x : Str} {ps : List Str} {sp : Sp} {e : Expr} {es : List Expr} {t : TA} {p pos : Pos} {kws : List Keyword}
theorem pe_own (O : Own X.prog X.w X.K X.mg X.base k x ps sp) (hr : Room k X.A) (hg : Gl X x) (ha : PA X (e :: es) t) (hdb : (x == ("__debug__" : Str)) = false := by decide)
    (he : starEach (e :: es) X.env = (false, eval e X.env) :: starEach es X.env := by rfl) (hpl : (backTo pos (starEach es X.env)).any (·.1) = false := by rfl) :
    PE X (.Call (.Name x p) (e :: es) [] pos) (tCall sp [] E0 t) := by
  obtain ⟨f, fd, F, gm, kp, hb, _⟩ := O.ex
  exact pe_call F hr hg gm kp hb .nil pass0 ha hdb he hpl
theorem pe_own0 (O : Own X.prog X.w X.K X.mg X.base k x ps sp) (hr : Room k X.A) (hg : Gl X x) (hdb : (x == ("__debug__" : Str)) = false := by decide) : PE X (.Call (.Name x p) [] [] pos) (tCall sp [] E0 tNil) := by
  obtain ⟨f, fd, F, gm, kp, hb, _⟩ := O.ex
  exact pe_call0 F hr hg gm kp hb .nil pass0 hdb
theorem pe_ownK0 (O : Own X.prog X.w X.K X.mg X.base k x ps sp) (hr : Room k X.A) (hg : Gl X x) (hkw : PK X kws t)
    (hks : (backToKw pos (keywordEach kws X.env)).filterMap (·.1) = ps := by rfl) (hall : (backToKw pos (keywordEach kws X.env)).all (·.1.isSome) = true := by rfl) (hdb : (x == ("__debug__" : Str)) = false := by decide)
    (hpl : ((backTo pos (starEach [] X.env)).any (·.1) || (backToKw pos (keywordEach kws X.env)).any (·.1.isNone)) = false := by rfl) :
    PE X (.Call (.Name x p) [] kws pos) (fun σ H Q => t σ H fun zs H2 => zs.length = ps.length ∧ sp zs H2 Q E0) := by
  obtain ⟨f, fd, F, gm, kp, _, hb⟩ := O.ex
  refine ⟨fun pins s σ H Q I h => ?_⟩
  refine wpAny_Call_Name_kw (ld_glob I hg gm ?_ hdb)
  refine PySem.W.callWith_KW0 (h₀ := X.base) I.ok.mod.kin kp hall ?_ hpl
  refine thn (hkw.run pos pins s σ H _ I h) fun ws s2 ⟨zs, H2, I2, rz, l2, q2⟩ => ⟨I2.kIn, ?_⟩
  rw [hks]
  exact run_fnN (us := []) (vs := []) F hr hb pass0 I2 .nil rz rfl l2 q2
theorem pe_gint {i : Int} (hg : Gl X x) (hm : ∃ t, X.mg x = some (.int i t)) (hd : (x == ("__debug__" : Str)) = false := by decide) : PE X (.Name x pos) (tC (.int i)) := by
  obtain ⟨t, e⟩ := hm
  exact pe_glob hg e ⟨t, rfl⟩ hd
theorem pe_gstr {i : Str} (hg : Gl X x) (hm : ∃ t, X.mg x = some (.str i t)) (hd : (x == ("__debug__" : Str)) = false := by decide) : PE X (.Name x pos) (tC (.str i)) := by
  obtain ⟨t, e⟩ := hm
  exact pe_glob hg e ⟨t, rfl⟩ hd
end

/-! ### rules more -/
section
variable {X : Cx}
/-- x is True, x is False -/
theorem op_isB : OpR X (compareOp .Is) (fun x y H Q => ∃ b, y = .bl b ∧ Q (.bl (decide (x = .bl b))) H) := by
  intro pins s σ H x y v u Q I rx ry h
  obtain ⟨b, rfl, q⟩ := h
  cases ry
  have key : ∀ c : Bool, c = decide (x = .bl b) → EP X pins σ Q (.bool c) s := fun c hc => ⟨.bl c, H, I, rfl, by rw [hc]; exact q⟩
  cases x with
  | bl c => cases (show v = Value.bool c from rx); exact wpAny_pure (key _ (by cases c <;> cases b <;> rfl))
  | non => cases (show v = Value.none from rx); exact wpAny_pure (key _ rfl)
  | int i => obtain ⟨t, rfl⟩ := rx; exact wpAny_pure (key _ rfl)
  | str i => obtain ⟨t, rfl⟩ := rx; exact wpAny_pure (key _ rfl)
  | byt i => obtain ⟨t, rfl⟩ := rx; exact wpAny_pure (key _ rfl)
  | flt i => obtain ⟨t, rfl⟩ := rx; exact wpAny_pure (key _ rfl)
  | ref i => cases (show v = Value.ref i from rx); exact wpAny_pure (key _ rfl)
  | ty i => cases (show v = Value.type i from rx); exact wpAny_pure (key _ rfl)
/-- text * int -/
theorem op_mul_str : OpR X (binaryOp .Mult) (fun x y H Q => ∃ z n, x = .str z ∧ y = .int n ∧ 0 ≤ n ∧ n < 2 ^ 31 ∧ (z.length : Int) * n ≤ 16777216 ∧ Q (.str (Txt.mul z n)) H) := by
  intro pins s σ H x y v u Q I rx ry h
  obtain ⟨z, n, rfl, rfl, h0, h1, h2, q⟩ := h
  obtain ⟨t, rfl⟩ := rx
  obtain ⟨t', rfl⟩ := ry
  refine SB.mul ⟨?_, fun hn _ => ?_, fun hn _ => ?_⟩ (fun t2 k => ⟨.str _, H, I.tok _, ⟨_, rfl⟩, q⟩)
  · have a : ¬ n < -(2 ^ 63 : Int) := by omega
    have b : ¬ n ≥ 2 ^ 63 := by omega
    rw [decide_eq_false a, decide_eq_false b]; rfl
  · have hz : (z.length : Int) ≤ 16777216 := by
      have : (z.length : Int) * 1 ≤ (z.length : Int) * n := Int.mul_le_mul_of_nonneg_left (by omega) (by omega)
      omega
    have hd : (4294967296 : Int) ≤ (2 ^ 63 - 1) / n := by
      rw [Int.le_ediv_iff_mul_le (by omega)]
      omega
    omega
  · have e : ((z.length * n.toNat : Nat) : Int) = (z.length : Int) * n := by
      rw [Int.natCast_mul, Int.toNat_of_nonneg h0]
    unfold Builtin.Str.tooLong
    refine decide_eq_false ?_
    show ¬ (z.length * n.toNat > sizeLine)
    have : sizeLine = 16777216 := by decide
    omega
end

/-! ### what a draw keeps -/
theorem same_new {H H' : Hp} {p : Addr} {o : HO} (k : Same H H') (n : H p = none) : Same H (upd H' p o) := fun b u e => by
  rw [upd_ne (ne_of_none e n)]
  exact k b u e
/-- addresses that are taken -/
abbrev Av := Addr → Prop
/-- the store stands at s; what it stands on is taken -/
def SO (S : Av) (s : Addr) (H : Hp) : Prop := S s ∧ ∃ (c : Addr) (ns : List Int) (p r sd t : Int), H s = some (.lst [.ref c, .int p, .int r, .int sd, .int t]) ∧ c ≠ s ∧ H c = some (.lst (ns.map V.int)) ∧ 0 ≤ p ∧ 0 ≤ r ∧ S c
theorem SO.at_ {S : Av} {s : Addr} {H : Hp} (h : SO S s H) : S s := h.1
theorem SO.there {S : Av} {s : Addr} {H : Hp} (h : SO S s H) : ∃ o, H s = some o := let ⟨_, _, _, _, _, _, _, e, _⟩ := h; ⟨_, e⟩
theorem SO.ne {S : Av} {s p : Addr} {H : Hp} (h : SO S s H) (n : H p = none) : p ≠ s := by
  obtain ⟨o, e⟩ := h.there
  exact (ne_of_none e n).symm
theorem SO.same {S : Av} {s : Addr} {H H' : Hp} (h : SO S s H) (k : Same H H') : SO S s H' :=
  let ⟨z, c, ns, p, r, sd, t, e, n, ec, h1, h2, h3⟩ := h
  ⟨z, c, ns, p, r, sd, t, k _ _ e, n, k _ _ ec, h1, h2, h3⟩
theorem SO.new {S : Av} {s p : Addr} {H : Hp} {o : HO} (h : SO S s H) (n : H p = none) : SO S s (upd H p o) := h.same (same_new (Same.refl H) n)
theorem SO.put {S : Av} {s p : Addr} {H : Hp} {o : HO} (h : SO S s H) (n : ¬ S p) : SO S s (upd H p o) :=
  let ⟨z, c, ns, p', r, sd, t, e, nc, ec, h1, h2, h3⟩ := h
  ⟨z, c, ns, p', r, sd, t, by rw [upd_ne (show s ≠ p from fun q => n (q ▸ z))]; exact e, nc, by rw [upd_ne (show c ≠ p from fun q => n (q ▸ h3))]; exact ec, h1, h2, h3⟩
theorem SO.wide {S S' : Av} {s : Addr} {H : Hp} (h : SO S s H) (w : ∀ b, S b → S' b) : SO S' s H :=
  let ⟨z, c, ns, p', r, sd, t, e, nc, ec, h1, h2, h3⟩ := h
  ⟨w _ z, c, ns, p', r, sd, t, e, nc, ec, h1, h2, w _ h3⟩

/-- all but s stands as it was; a store at s is one still, over the same row -/
structure Keep (s : Addr) (H H' : Hp) : Prop where
  fn : ∀ b o, b ≠ s → H b = some o → H' b = some o
  so : ∀ S, SO S s H → SO S s H'
instance {s : Addr} {H H' : Hp} : CoeFun (Keep s H H') (fun _ => ∀ b o, b ≠ s → H b = some o → H' b = some o) := ⟨Keep.fn⟩
theorem Keep.refl (s : Addr) (H : Hp) : Keep s H H := ⟨fun _ _ _ h => h, fun _ h => h⟩
theorem Keep.trans {s : Addr} {H H1 H2 : Hp} (a : Keep s H H1) (b : Keep s H1 H2) : Keep s H H2 := ⟨fun c o n h => b.fn c o n (a.fn c o n h), fun S h => b.so S (a.so S h)⟩
theorem Keep.of {s : Addr} {H H' : Hp} (h : Same H H') : Keep s H H' := ⟨fun b o _ e => h b o e, fun _ so => so.same h⟩
theorem Keep.put {s c : Addr} {p r sd t p' r' sd' t' : Int} {H H' : Hp} (k : Keep s H H') (e : H' s = some (.lst [.ref c, .int p, .int r, .int sd, .int t])) (hp : 0 ≤ p') (hr : 0 ≤ r') :
    Keep s H (upd H' s (.lst [.ref c, .int p', .int r', .int sd', .int t'])) := by
  refine ⟨fun b u n h => ?_, fun S h => ?_⟩
  · rw [upd_ne n]
    exact k.fn b u n h
  · obtain ⟨z, c', ns, q, r2, sd2, t2, e', nc, ec, h1, h2, h3⟩ := k.so S h
    rw [e] at e'
    have e2 : c = c' := V.ref.inj (List.cons.inj (HO.lst.inj (Option.some.inj e'))).1
    subst e2
    exact ⟨z, c, ns, p', r', sd', t', upd_same, nc, by rw [upd_ne nc]; exact ec, hp, hr, h3⟩
theorem Keep.new {s p : Addr} {H H' : Hp} {o : HO} (k : Keep s H H') (n : H p = none) : Keep s H (upd H' p o) := by
  refine ⟨fun b u nb e => ?_, fun S h => ?_⟩
  · rw [upd_ne (ne_of_none e n)]
    exact k.fn b u nb e
  · have h1 : SO (fun b => S b ∧ H b ≠ none) s H := by
      obtain ⟨z, c, ns, q, r, sd, t, e, nc, ec, h1, h2, h3⟩ := h
      exact ⟨⟨z, by rw [e]; exact fun q => nomatch q⟩, c, ns, q, r, sd, t, e, nc, ec, h1, h2, h3, by rw [ec]; exact fun q => nomatch q⟩
    exact ((k.so _ h1).put (fun q => q.2 n)).wide fun b hb => hb.1
theorem Keep.free {s p : Addr} {H H' : Hp} (k : Keep s H H') (np : p ≠ s) (h : H' p = none) : H p = none := by
  cases e : H p with
  | none => rfl
  | some o => rw [k.fn p o np e] at h; cases h
theorem Keep.seq {K : PySem.W.Frag} {s : Addr} {H H' : Hp} {a : Addr} {xs : List V} (e : Keep s H H') (n : a ≠ s) (h : SqL K H a xs) : SqL K H' a xs := by
  rcases h with (h | ⟨o, h⟩) | h
  · exact .inl (.inl (e _ _ n h))
  · exact .inl (.inr ⟨o, e _ _ n h⟩)
  · exact .inr h
/-! ### data apart from what may change: S, addresses that are taken -/
def Al (S : Av) (H : Hp) : Prop := ∀ b, S b → ∃ o, H b = some o
def addA (S : Av) (D : Addr) : Av := fun b => S b ∨ b = D
theorem Al.same {S : Av} {H H' : Hp} (h : Al S H) (k : Same H H') : Al S H' := fun b hb => let ⟨o, e⟩ := h b hb; ⟨o, k b o e⟩
theorem Al.keep {S : Av} {s : Addr} {H H' : Hp} (h : Al S H) (k : Keep s H H') (so : SO S s H') : Al S H' := fun b hb => by
  by_cases e : b = s
  · subst e; exact so.there
  · obtain ⟨o, q⟩ := h b hb
    exact ⟨o, k b o e q⟩
theorem Al.upd {S : Av} {p : Addr} {o : HO} {H : Hp} (h : Al S H) : Al S (upd H p o) := fun b hb => by
  by_cases e : b = p
  · subst e; exact ⟨o, upd_same⟩
  · rw [upd_ne e]; exact h b hb
theorem Al.free {S : Av} {p : Addr} {H : Hp} (h : Al S H) (n : H p = none) : ¬ S p := fun hb => by
  obtain ⟨o, e⟩ := h p hb
  rw [n] at e; cases e
theorem Al.add {S : Av} {D : Addr} {H : Hp} {o : HO} (h : Al S H) (e : H D = some o) : Al (addA S D) H := fun b hb => by
  rcases hb with hb | rfl
  · exact h b hb
  · exact ⟨o, e⟩
mutual
inductive Da (S : Av) (H : Hp) : V → PyData → Prop
  | non : Da S H .non .none
  | bl (b : Bool) : Da S H (.bl b) (.bool b)
  | int (i : Int) : Da S H (.int i) (.int i)
  | str (x : Str) : Da S H (.str x) (.str x)
  | lst {a : Addr} {xs : List V} {ds : List PyData} : ¬ S a → H a = some (.lst xs) → DaAll S H xs ds → Da S H (.ref a) (.list ds)
  | tup {a : Addr} {xs : List V} {ds : List PyData} : ¬ S a → H a = some (.tup xs) → DaAll S H xs ds → Da S H (.ref a) (.tuple ds)
inductive DaAll (S : Av) (H : Hp) : List V → List PyData → Prop
  | nil : DaAll S H [] []
  | cons {v : V} {vs : List V} {d : PyData} {ds : List PyData} : Da S H v d → DaAll S H vs ds → DaAll S H (v :: vs) (d :: ds)
end
mutual
/-- what is not in S stands as it was (or S is smaller) -/
theorem Da.go {S S' : Av} {H H' : Hp} (k : ∀ b o, ¬ S b → H b = some o → ¬ S' b ∧ H' b = some o) : ∀ {v : V} {d : PyData}, Da S H v d → Da S' H' v d
  | _, _, .non => .non
  | _, _, .bl b => .bl b
  | _, _, .int i => .int i
  | _, _, .str x => .str x
  | _, _, .lst n e r => .lst (k _ _ n e).1 (k _ _ n e).2 (DaAll.go k r)
  | _, _, .tup n e r => .tup (k _ _ n e).1 (k _ _ n e).2 (DaAll.go k r)
theorem DaAll.go {S S' : Av} {H H' : Hp} (k : ∀ b o, ¬ S b → H b = some o → ¬ S' b ∧ H' b = some o) : ∀ {vs : List V} {ds : List PyData}, DaAll S H vs ds → DaAll S' H' vs ds
  | _, _, .nil => .nil
  | _, _, .cons a r => .cons (Da.go k a) (DaAll.go k r)
end
section
variable {S : Av} {s D p : Addr} {H H' : Hp} {v : V} {d : PyData} {vs : List V} {ds : List PyData} {o : HO}
theorem kgo (k : Keep s H H') (hs : S s) : ∀ b o, ¬ S b → H b = some o → ¬ S b ∧ H' b = some o := fun b o n e => ⟨n, k b o (fun q => n (q ▸ hs)) e⟩
theorem Da.keep (h : Da S H v d) (k : Keep s H H') (hs : S s) : Da S H' v d := h.go (kgo k hs)
theorem DaAll.keep (h : DaAll S H vs ds) (k : Keep s H H') (hs : S s) : DaAll S H' vs ds := h.go (kgo k hs)
theorem Da.same (h : Da S H v d) (k : Same H H') : Da S H' v d := h.go fun b o n e => ⟨n, k b o e⟩
theorem DaAll.same (h : DaAll S H vs ds) (k : Same H H') : DaAll S H' vs ds := h.go fun b o n e => ⟨n, k b o e⟩
theorem Da.new (h : Da S H v d) (np : H p = none) : Da S (upd H p o) v d := h.same (same_new (Same.refl H) np)
theorem DaAll.new (h : DaAll S H vs ds) (np : H p = none) : DaAll S (upd H p o) vs ds := h.same (same_new (Same.refl H) np)
/-- one more address is apart: it was free -/
theorem Da.more (h : Da S H v d) (nD : H D = none) : Da (addA S D) H v d := h.go fun b o n e => ⟨fun q => q.elim n (ne_of_none e nD), e⟩
theorem DaAll.more (h : DaAll S H vs ds) (nD : H D = none) : DaAll (addA S D) H vs ds := h.go fun b o n e => ⟨fun q => q.elim n (ne_of_none e nD), e⟩
theorem Da.less (h : Da (addA S D) H v d) : Da S H v d := h.go fun b o n e => ⟨fun q => n (.inl q), e⟩
theorem DaAll.less (h : DaAll (addA S D) H vs ds) : DaAll S H vs ds := h.go fun b o n e => ⟨fun q => n (.inl q), e⟩
/-- D, which is apart, is written -/
theorem Da.at (h : Da (addA S D) H v d) : Da (addA S D) (upd H D o) v d := h.go fun b u n e => ⟨n, by rw [upd_ne (fun q => n (.inr q))]; exact e⟩
theorem DaAll.at (h : DaAll (addA S D) H vs ds) : DaAll (addA S D) (upd H D o) vs ds := h.go fun b u n e => ⟨n, by rw [upd_ne (fun q => n (.inr q))]; exact e⟩
end
theorem DaAll.length {S : Av} {H : Hp} : ∀ {vs : List V} {ds : List PyData}, DaAll S H vs ds → vs.length = ds.length
  | _, _, .nil => rfl
  | _, _, .cons _ r => congrArg (· + 1) (DaAll.length r)
theorem DaAll.get {S : Av} {H : Hp} : ∀ {vs : List V} {ds : List PyData} {i : Nat} {v : V}, DaAll S H vs ds → vs[i]? = some v → ∃ d, ds[i]? = some d ∧ Da S H v d
  | _, _, _, _, .nil, e => by simp at e
  | _, _, 0, _, .cons (d := d) a _, e => by simp at e; subst e; exact ⟨d, rfl, a⟩
  | _, _, i + 1, v, .cons _ r, e => by
    obtain ⟨d, h1, h2⟩ := DaAll.get (i := i) (v := v) r (by simpa using e)
    exact ⟨d, by simpa using h1, h2⟩
theorem DaAll.mem {S : Av} {H : Hp} {vs : List V} {ds : List PyData} {v : V} (h : DaAll S H vs ds) (hv : v ∈ vs) : ∃ d, d ∈ ds ∧ Da S H v d := by
  obtain ⟨i, hi, e⟩ := List.mem_iff_getElem.mp hv
  obtain ⟨d, h1, h2⟩ := h.get (i := i) (v := v) (by rw [List.getElem?_eq_getElem hi, e])
  exact ⟨d, List.mem_of_getElem? h1, h2⟩
theorem DaAll.app {S : Av} {H : Hp} : ∀ {vs ws : List V} {ds es : List PyData}, DaAll S H vs ds → DaAll S H ws es → DaAll S H (vs ++ ws) (ds ++ es)
  | _, _, _, _, .nil, r => r
  | _, _, _, _, .cons a t, r => .cons a (DaAll.app t r)
theorem DaAll.one {S : Av} {H : Hp} {v : V} {d : PyData} (h : Da S H v d) : DaAll S H [v] [d] := .cons h .nil
theorem DaAll.take {S : Av} {H : Hp} : ∀ {vs : List V} {ds : List PyData} (n : Nat), DaAll S H vs ds → DaAll S H (vs.take n) (ds.take n)
  | _, _, 0, _ => .nil
  | _, _, _ + 1, .nil => .nil
  | _, _, n + 1, .cons a r => .cons a (DaAll.take n r)
theorem DaAll.drop {S : Av} {H : Hp} : ∀ {vs : List V} {ds : List PyData} (n : Nat), DaAll S H vs ds → DaAll S H (vs.drop n) (ds.drop n)
  | _, _, 0, h => h
  | _, _, _ + 1, .nil => .nil
  | _, _, n + 1, .cons _ r => DaAll.drop n r
theorem DaAll.set {S : Av} {H : Hp} {v : V} {d : PyData} (h : Da S H v d) : ∀ {vs : List V} {ds : List PyData} (n : Nat), DaAll S H vs ds → DaAll S H (vs.set n v) (ds.set n d)
  | _, _, _, .nil => .nil
  | _, _, 0, .cons _ r => .cons h r
  | _, _, n + 1, .cons a r => .cons a (DaAll.set h n r)
theorem DaAll.erase {S : Av} {H : Hp} : ∀ {vs : List V} {ds : List PyData} (n : Nat), DaAll S H vs ds → DaAll S H (vs.eraseIdx n) (ds.eraseIdx n)
  | _, _, _, .nil => .nil
  | _, _, 0, .cons _ r => r
  | _, _, n + 1, .cons a r => .cons a (DaAll.erase n r)
theorem DaAll.reverse {S : Av} {H : Hp} : ∀ {vs : List V} {ds : List PyData}, DaAll S H vs ds → DaAll S H vs.reverse ds.reverse
  | _, _, .nil => .nil
  | _, _, .cons a r => by
    rw [List.reverse_cons, List.reverse_cons]
    exact (DaAll.reverse r).app (.one a)
/-- data of depth at most n, texts and rows no longer than L, no dicts -/
inductive Dd (L : Nat) : Nat → PyData → Prop
  | non (n : Nat) : Dd L n .none
  | bl (n : Nat) (b : Bool) : Dd L n (.bool b)
  | int (n : Nat) (i : Int) : Dd L n (.int i)
  | str (n : Nat) {x : Str} : x.length ≤ L → Dd L n (.str x)
  | lst {n : Nat} {ds : List PyData} : ds.length ≤ L → (∀ d ∈ ds, Dd L n d) → Dd L (n + 1) (.list ds)
  | tup {n : Nat} {ds : List PyData} : ds.length ≤ L → (∀ d ∈ ds, Dd L n d) → Dd L (n + 1) (.tuple ds)
theorem Dd.mono {L L' : Nat} (hL : L ≤ L') : ∀ {n : Nat} {d : PyData} {n' : Nat}, Dd L n d → n ≤ n' → Dd L' n' d
  | _, _, _, .non _, _ => .non _
  | _, _, _, .bl _ b, _ => .bl _ b
  | _, _, _, .int _ i, _ => .int _ i
  | _, _, _, .str _ h, _ => .str _ (Nat.le_trans h hL)
  | _, _, 0, .lst _ _, h => absurd h (Nat.not_succ_le_zero _)
  | _, _, m + 1, .lst h1 h2, h => .lst (Nat.le_trans h1 hL) fun d hd => Dd.mono hL (h2 d hd) (Nat.le_of_succ_le_succ h)
  | _, _, 0, .tup _ _, h => absurd h (Nat.not_succ_le_zero _)
  | _, _, m + 1, .tup h1 h2, h => .tup (Nat.le_trans h1 hL) fun d hd => Dd.mono hL (h2 d hd) (Nat.le_of_succ_le_succ h)

/-! ### what a datum is -/
def tyN : PyData → String
  | .none => "NoneType" | .bool _ => "bool" | .int _ => "int" | .str _ => "str" | .list _ => "list" | .tuple _ => "tuple" | .dict _ => "dict"
theorem Da.ty {K : PySem.W.Frag} {S : Av} {H : Hp} {x : V} {d : PyData} : Da S H x d → TyX K H x (.type (tyN d))
  | .non => .base .non
  | .bl _ => .base (.bl _)
  | .int _ => .base (.int _)
  | .str _ => .base (.str _)
  | .lst _ e _ => .base (.lst e)
  | .tup _ e _ => .base (.tup e)
def isT (T n : String) : Bool := n == T || (n == "bool" && T == "int")
def isD (T : String) (d : PyData) : Bool := isT T (tyN d)
def kindB (T : String) : Bool := T == "str" || T == "int" || T == "bool" || T == "list" || T == "tuple"
theorem kit_d {K : PySem.W.Frag} {d : PyData} {T : String} (h : kindB T = true) (nd : tyN d ≠ "dict") : PySem.W.kitOne K (.type (tyN d)) (.type T) = some (isD T d) := by
  unfold kindB at h
  simp only [Bool.or_eq_true, beq_iff_eq, or_assoc] at h
  rcases h with rfl | rfl | rfl | rfl | rfl <;> cases d <;> simp only [isD, tyN] <;> first | exact kit_ty (by decide +kernel) | exact (nd rfl).elim
theorem Da.nodict {S : Av} {H : Hp} {x : V} {d : PyData} (h : Da S H x d) : tyN d ≠ "dict" := by
  cases h <;> simp [tyN]
theorem isi_da {K : PySem.W.Frag} {S : Av} {H : Hp} {x : V} {d : PyData} {T : String} {Q : VK} (hd : Da S H x d) (h : kindB T = true) (q : Q (.bl (isD T d)) H) : rIsi K [x, .ty T] H Q :=
  ⟨x, .ty T, _, _, _, rfl, .ty T, hd.ty, kit_d h hd.nodict, q⟩
/-- isinstance(x, (list, tuple)) -/
theorem isi_lt {K : PySem.W.Frag} {S : Av} {tp : Addr} {H : Hp} {x : V} {d : PyData} {Q : VK} (hd : Da S H x d) (ht : H tp = some (.tup [.ty "list", .ty "tuple"])) (q : Q (.bl (isD "list" d || isD "tuple" d)) H) : rIsiT K [x, .ref tp] H Q := by
  refine ⟨x, tp, _, _, [.type "list", .type "tuple"], _, rfl, ht, .cons (.ty _) (.cons (.ty _) .nil), hd.ty, ?_, q⟩
  refine kitAny_cons (kit_d rfl hd.nodict) (fun h1 => ?_) (fun h1 => by rw [h1, Bool.true_or])
  rw [h1, Bool.false_or]
  refine kitAny_cons (kit_d rfl hd.nodict) (fun h2 => by rw [h2]; rfl) (fun h2 => h2)
theorem int_at {ns : List Int} {i : Nat} {x : V} (h : (ns.map V.int)[i]? = some x) : ∃ n, ns[i]? = some n ∧ x = .int n := by
  rw [List.getElem?_map] at h
  cases e : ns[i]? with
  | none => rw [e] at h; cases h
  | some n => rw [e] at h; exact ⟨n, rfl, (Option.some.inj h).symm⟩
theorem take_snoc {α : Type} {xs : List α} {i : Nat} {x : α} (h : xs[i]? = some x) : xs.take i ++ [x] = xs.take (i + 1) := by
  rw [List.take_add_one, h]
  rfl
theorem line_lt {n : Nat} (h : n ≤ 1000000) : n < sizeLine := Nat.lt_of_le_of_lt h (by decide)
theorem line_le {n : Nat} (h : n ≤ 1000000) : n ≤ sizeLine := Nat.le_of_lt (line_lt h)
/-- a promise that is never asked -/
theorem FnOk.never {P : Program} {w : World} {K : PySem.W.Frag} {mg : Str → Option Value} {base : Heap} {CX : CXT} {k : Nat} {f : Addr} {fd : FuncData} {ps : List Str} {sp : Sp} (h : ∀ vs H Q E, sp vs H Q E → False) : FnOk P w K mg base CX k f fd ps sp :=
  ⟨fun _ _ _ _ q => (h _ _ _ _ q).elim, fun _ _ _ _ _ _ _ _ _ _ _ _ _ q => (h _ _ _ _ q).elim⟩

/-! ### the store's promises -/
def sp_law_mix : Sp := fun vs H Q _ => ∃ a b : Int, vs = [.int a, .int b] ∧ ∀ r : Int, Q (.int r) H
def sp_law_store (K : PySem.W.Frag) : Sp := fun vs H Q _ => ∃ (a : Addr) (ns : List Int), vs = [.ref a] ∧ SqL K H a (ns.map V.int) ∧ ns.length ≤ 63 ∧ ∀ (H' : Hp) (S : Av) (s : Addr), Same H H' → Al S H' → SO S s H' → Q (.ref s) H'
def sp_law_take : Sp := fun vs H Q _ => ∃ (S : Av) (s : Addr) (m : Int), vs = [.ref s, .int m] ∧ SO S s H ∧ m < 1073741824 ∧ ∀ (H' : Hp) (r : Int), Keep s H H' → SO S s H' → 0 ≤ r → r < max 1 m → Q (.int r) H'
def sp_law_pick (K : PySem.W.Frag) : Sp := fun vs H Q _ => ∃ (S : Av) (s : Addr) (x : V), vs = [.ref s, x] ∧ SO S s H ∧
  ((∃ (a : Addr) (xs : List V), x = .ref a ∧ a ≠ s ∧ SqL K H a xs ∧ xs ≠ [] ∧ xs.length ≤ 1000000 ∧ ∀ (H' : Hp) (v : V), Keep s H H' → SO S s H' → v ∈ xs → Q v H') ∨
   (∃ z : Str, x = .str z ∧ 0 < z.length ∧ z.length ≤ 1000000 ∧ ∀ (H' : Hp) (c : Nat), Keep s H H' → SO S s H' → c ∈ z.cps.toList → Q (.str ⟨#[c]⟩) H'))
theorem pick_list {K : PySem.W.Frag} {S : Av} {s p : Addr} {H : Hp} {xs : List V} {Q : VK} (hS : SO S s H) (np : H p = none) (hne : xs ≠ []) (hl : xs.length ≤ 1000000)
    (q : ∀ (H' : Hp) (v : V), Keep s H H' → Keep s (upd H p (.lst xs)) H' → SO S s H' → v ∈ xs → Q v H') : sp_law_pick K [.ref s, .ref p] (upd H p (.lst xs)) Q E0 :=
  ⟨S, s, _, rfl, hS.new np, .inl ⟨p, xs, rfl, hS.ne np, SqL.of upd_same, hne, hl, fun H' v k so hv => q H' v (((Keep.refl s H).new np).trans k) k so hv⟩⟩
theorem pick_str {K : PySem.W.Frag} {S : Av} {s : Addr} {H : Hp} {z : Str} {Q : VK} (hS : SO S s H) (h0 : 0 < z.length) (hl : z.length ≤ 1000000)
    (q : ∀ (H' : Hp) (c : Nat), Keep s H H' → SO S s H' → c ∈ z.cps.toList → Q (.str ⟨#[c]⟩) H') : sp_law_pick K [.ref s, .str z] H Q E0 :=
  ⟨S, s, _, rfl, hS, .inr ⟨z, rfl, h0, hl, q⟩⟩
theorem isD_list {d : PyData} (h : isD "list" d = true) : ∃ ds, d = .list ds := by
  cases d <;> first | exact ⟨_, rfl⟩ | (exact absurd h (by simp only [isD, tyN]; decide))
theorem isD_tuple {d : PyData} (h : isD "tuple" d = true) : ∃ ds, d = .tuple ds := by
  cases d <;> first | exact ⟨_, rfl⟩ | (exact absurd h (by simp only [isD, tyN]; decide))
theorem isD_str {d : PyData} (h : isD "str" d = true) : ∃ z, d = .str z := by
  cases d <;> first | exact ⟨_, rfl⟩ | (exact absurd h (by simp only [isD, tyN]; decide))
theorem isD_bool {d : PyData} (h : isD "bool" d = true) : ∃ z, d = .bool z := by
  cases d <;> first | exact ⟨_, rfl⟩ | (exact absurd h (by simp only [isD, tyN]; decide))
theorem isD_int {d : PyData} (h : isD "int" d = true) : (∃ z, d = .int z) ∨ ∃ z, d = .bool z := by
  cases d <;> first | exact .inl ⟨_, rfl⟩ | exact .inr ⟨_, rfl⟩ | (exact absurd h (by simp only [isD, tyN]; decide))
theorem isD_lt {d : PyData} (h : (isD "list" d || isD "tuple" d) = true) : (∃ ds, d = .list ds) ∨ ∃ ds, d = .tuple ds := by
  rcases Bool.or_eq_true_iff.mp h with h | h
  · exact .inl (isD_list h)
  · exact .inr (isD_tuple h)
/-- the store, and what is taken -/
structure SS (S : Av) (s : Addr) (H : Hp) : Prop where
  so : SO S s H
  al : Al S H
theorem SS.at_ {S : Av} {s : Addr} {H : Hp} (h : SS S s H) : S s := h.so.at_
theorem SS.keep {S : Av} {s : Addr} {H H' : Hp} (h : SS S s H) (k : Keep s H H') (so : SO S s H') : SS S s H' := ⟨so, h.al.keep k so⟩
theorem SS.new {S : Av} {s p : Addr} {H : Hp} {o : HO} (h : SS S s H) (np : H p = none) : SS S s (upd H p o) := ⟨h.so.new np, h.al.upd⟩
theorem SS.same {S : Av} {s : Addr} {H H' : Hp} (h : SS S s H) (k : Same H H') : SS S s H' := ⟨h.so.same k, h.al.same k⟩
theorem SS.ne {S : Av} {s p : Addr} {H : Hp} (h : SS S s H) (np : H p = none) : p ≠ s := h.so.ne np
theorem SS.free {S : Av} {s p : Addr} {H : Hp} (h : SS S s H) (np : H p = none) : ¬ S p := h.al.free np
theorem SS.add {S : Av} {s D : Addr} {H : Hp} {o : HO} (h : SS S s H) (e : H D = some o) : SS (addA S D) s H := ⟨h.so.wide fun _ => .inl, h.al.add e⟩

/-! ### names -/
def lettersS : Str := "abcdefghijklmnopqrstuvwxyz"
def digitsS : Str := "0123456789"
def isLet (c : Nat) : Bool := decide (97 ≤ c) && decide (c ≤ 122)
def isDig (c : Nat) : Bool := decide (48 ≤ c) && decide (c ≤ 57)
/-- a name, by its signs -/
def nameL : List Nat → Bool
  | [] => false
  | c :: r => isLet c && r.all (fun c => isLet c || isDig c) && decide (r.length ≤ 7)
def nameS (z : Str) : Bool := nameL z.cps.toList
def nameD : PyData → Bool
  | .str z => nameS z
  | _ => false
theorem mem_let {c : Nat} : c ∈ ("abcdefghijklmnopqrstuvwxyz" : Str).cps.toList ↔ isLet c = true := by
  have f : ∀ x ∈ ("abcdefghijklmnopqrstuvwxyz" : Str).cps.toList, isLet x = true := by decide +kernel
  have g : ∀ x, x < 123 → isLet x = true → x ∈ ("abcdefghijklmnopqrstuvwxyz" : Str).cps.toList := by decide +kernel
  refine ⟨f c, fun h => g c ?_ h⟩
  have := of_decide_eq_true (Bool.and_eq_true_iff.mp h).2
  omega
theorem mem_dig {c : Nat} : c ∈ ("0123456789" : Str).cps.toList ↔ isDig c = true := by
  have f : ∀ x ∈ ("0123456789" : Str).cps.toList, isDig x = true := by decide +kernel
  have g : ∀ x, x < 123 → isDig x = true → x ∈ ("0123456789" : Str).cps.toList := by decide +kernel
  refine ⟨f c, fun h => g c ?_ h⟩
  have := of_decide_eq_true (Bool.and_eq_true_iff.mp h).2
  omega
theorem mem_ld {c : Nat} : c ∈ ("abcdefghijklmnopqrstuvwxyz0123456789" : Str).cps.toList ↔ (isLet c || isDig c) = true := by
  have f : ∀ x ∈ ("abcdefghijklmnopqrstuvwxyz0123456789" : Str).cps.toList, (isLet x || isDig x) = true := by decide +kernel
  have g : ∀ x, x < 123 → (isLet x || isDig x) = true → x ∈ ("abcdefghijklmnopqrstuvwxyz0123456789" : Str).cps.toList := by decide +kernel
  refine ⟨f c, fun h => g c ?_ h⟩
  rcases Bool.or_eq_true_iff.mp h with h | h
  · have := of_decide_eq_true (Bool.and_eq_true_iff.mp h).2
    omega
  · have := of_decide_eq_true (Bool.and_eq_true_iff.mp h).2
    omega
/-- one sign of a text -/
theorem str_at {z : Str} {c : Nat} {i : Nat} (h : z.cps[i]? = some c) : z.cps.toList[i]? = some c := by
  rw [Array.getElem?_toList]
  exact h
theorem str_len (z : Str) : z.length = z.cps.toList.length := rfl

/-! ### rules by data -/
theorem CallR.imp {X : Cx} {f : Value} {r r' : List V → Hp → VK → Prop} (h : CallR X f r) (i : ∀ xs H Q, r' xs H Q → r xs H Q) : CallR X f r' :=
  fun pins s σ H xs us Q I rv q => h pins s σ H xs us Q I rv (i _ _ _ q)
def rIsD : List V → Hp → VK → Prop := fun xs H Q => ∃ (x : V) (T : String) (S : Av) (d : PyData), xs = [x, .ty T] ∧ kindB T = true ∧ Da S H x d ∧ Q (.bl (isD T d)) H
theorem call_isD {X : Cx} : CallR X (.builtin "isinstance") rIsD := CallR.imp call_isi fun xs H Q ⟨x, T, S, d, e, h, hd, q⟩ => by
  subst e
  exact isi_da hd h q
def rIsLT : List V → Hp → VK → Prop := fun xs H Q => ∃ (x : V) (tp : Addr) (S : Av) (d : PyData), xs = [x, .ref tp] ∧ H tp = some (.tup [.ty "list", .ty "tuple"]) ∧ Da S H x d ∧ Q (.bl (isD "list" d || isD "tuple" d)) H
theorem call_isLT {X : Cx} : CallR X (.builtin "isinstance") rIsLT := CallR.imp call_isiT fun xs H Q ⟨x, tp, S, d, e, h, hd, q⟩ => by
  subst e
  exact isi_lt hd h q

theorem nameL_cons (c : Nat) (r : List Nat) : nameL (c :: r) = (isLet c && r.all (fun c => isLet c || isDig c) && decide (r.length ≤ 7)) := rfl
theorem nameL_long {l : List Nat} (h : 8 < l.length) : nameL l = false := by
  cases l with
  | nil => rfl
  | cons c r =>
    rw [List.length_cons] at h
    rw [nameL_cons]
    rw [show decide (r.length ≤ 7) = false from decide_eq_false (by omega), Bool.and_false]
theorem nameL_bad {l : List Nat} {c : Nat} (h : c ∈ l) (hc : (isLet c || isDig c) = false) : nameL l = false := by
  cases l with
  | nil => rfl
  | cons d r =>
    rw [nameL_cons]
    rcases List.mem_cons.mp h with rfl | h
    · rw [(Bool.or_eq_false_iff.mp hc).1]; rfl
    · have e : r.all (fun c => isLet c || isDig c) = false := List.all_eq_false.mpr ⟨c, h, by rw [hc]; decide⟩
      rw [e, Bool.and_false, Bool.false_and]
theorem let_dig {c : Nat} (h : isDig c = true) : isLet c = false := by
  have := of_decide_eq_true (Bool.and_eq_true_iff.mp h).2
  unfold isLet
  rw [show decide (97 ≤ c) = false from decide_eq_false (by omega)]
  rfl
theorem nameL_good {c : Nat} {r : List Nat} (h : ∀ x ∈ c :: r, (isLet x || isDig x) = true) (hl : (c :: r).length ≤ 8) : nameL (c :: r) = !isDig c := by
  have e : r.all (fun c => isLet c || isDig c) = true := List.all_eq_true.mpr fun x hx => h x (List.mem_cons_of_mem _ hx)
  rw [nameL_cons]
  rw [List.length_cons] at hl
  rw [e, Bool.and_true, show decide (r.length ≤ 7) = true from decide_eq_true (by omega), Bool.and_true]
  have h0 := h c List.mem_cons_self
  cases hd : isDig c with
  | true => rw [let_dig hd]; rfl
  | false => rw [hd, Bool.or_false] at h0; rw [h0]; rfl
theorem decide_mem_ld (c : Nat) : decide (c ∈ ("abcdefghijklmnopqrstuvwxyz0123456789" : Str).cps.toList) = (isLet c || isDig c) := by
  rw [Bool.eq_iff_iff, decide_eq_true_eq]
  exact mem_ld
theorem decide_mem_let (c : Nat) : decide (c ∈ ("abcdefghijklmnopqrstuvwxyz" : Str).cps.toList) = isLet c := by
  rw [Bool.eq_iff_iff, decide_eq_true_eq]
  exact mem_let
theorem decide_mem_dig (c : Nat) : decide (c ∈ ("0123456789" : Str).cps.toList) = isDig c := by
  rw [Bool.eq_iff_iff, decide_eq_true_eq]
  exact mem_dig

theorem str_app_len (x y : Str) : (x ++ y).length = x.length + y.length := by
  show (x.cps ++ y.cps).size = x.cps.size + y.cps.size
  exact Array.size_append ..
theorem str_app_list (x y : Str) : (x ++ y).cps.toList = x.cps.toList ++ y.cps.toList := by
  show (x.cps ++ y.cps).toList = _
  exact Array.toList_append
theorem rep_len (a : Array Nat) : ∀ (n : Nat) (b : Array Nat), ((List.replicate n a).foldl (· ++ ·) b).size = b.size + n * a.size
  | 0, b => by simp
  | n + 1, b => by
    rw [List.replicate_succ, List.foldl_cons, rep_len a n (b ++ a), Array.size_append, Nat.succ_mul]
    omega
theorem mul_len (z : Str) (n : Int) (h : 0 ≤ n) : (Txt.mul z n).length = n.toNat * z.length := by
  unfold Txt.mul
  by_cases h1 : n < 1
  · rw [if_pos h1]
    have : n.toNat = 0 := by omega
    rw [this, Nat.zero_mul]; rfl
  · rw [if_neg h1]
    split
    · next hc =>
      rcases Bool.or_eq_true_iff.mp hc with hc | hc
      · have e := eq_of_beq hc
        subst e
        show z.length = 1 * z.length
        rw [Nat.one_mul]
      · have e : z.length = 0 := eq_of_beq hc
        rw [e, Nat.mul_zero]
    · show ((List.replicate n.toNat z.cps).foldl (· ++ ·) #[]).size = _
      rw [rep_len]
      show 0 + _ = _
      rw [Nat.zero_add]
      rfl
theorem one_mul_len (c : Nat) : (Txt.mul ⟨#[c]⟩ 4000).length ≤ 4000 := by
  rw [mul_len _ _ (by decide)]
  exact Nat.le_refl _

/-- a letter, then letters and digits -/
def wordL : List Nat → Bool
  | [] => false
  | c :: r => isLet c && r.all (fun c => isLet c || isDig c)
theorem wordL_one (c : Nat) : wordL [c] = isLet c := Bool.and_true _
theorem wordL_snoc {l : List Nat} {c : Nat} (h : wordL l = true) (hc : (isLet c || isDig c) = true) : wordL (l ++ [c]) = true := by
  cases l with
  | nil => cases h
  | cons a r =>
    obtain ⟨h1, h2⟩ := Bool.and_eq_true_iff.mp h
    show (isLet a && (r ++ [c]).all _) = true
    rw [List.all_append, h1, h2]
    show (true && (true && ((isLet c || isDig c) && true))) = true
    rw [hc]; rfl
theorem wordL_all {l : List Nat} (h : wordL l = true) : ∀ c ∈ l, (isLet c || isDig c) = true := by
  cases l with
  | nil => cases h
  | cons a r =>
    obtain ⟨h1, h2⟩ := Bool.and_eq_true_iff.mp h
    intro c hc
    rcases List.mem_cons.mp hc with rfl | hc
    · rw [h1]; rfl
    · exact List.all_eq_true.mp h2 c hc

/-- a new object -/
theorem fresh {S : Av} {s p : Addr} {H0 H : Hp} (o : HO) (S1 : SS S s H) (k : Keep s H0 H) (np : H p = none) : ∃ H', upd H p o = H' ∧ SS S s H' ∧ Keep s H0 H' ∧ Same H H' ∧ H' p = some o ∧ ¬ S p ∧ p ≠ s :=
  ⟨_, rfl, S1.new np, k.trans ((Keep.refl s H).new np), same_new (Same.refl H) np, upd_same, S1.free np, S1.ne np⟩
theorem Dd.lift {L n m : Nat} {d : PyData} (h : Dd L n d) (e : n ≤ m) : Dd L m d := h.mono (Nat.le_refl L) e

theorem same_tup {K : PySem.W.Frag} {H H' : Hp} {a : Addr} {xs : List V} (e : Same H H') (h : H a = some (.tup xs)) : SqT K H' a xs := SqT.of (e _ _ h)
/-- two rows of one kind -/
theorem rows_of {K : PySem.W.Frag} {S : Av} {H : Hp} {x y : V} {d e : PyData} {L m : Nat} (h : (isD "list" e || isD "tuple" e) = true) (h1 : isD "list" e = true → isD "list" d = true) (h2 : isD "tuple" e = true → isD "tuple" d = true)
    (hd : Da S H x d) (he : Da S H y e) (hD : Dd L m e) : ∃ (a c : Addr) (xs ys : List V) (ds es : List PyData) (m' : Nat), x = .ref a ∧ y = .ref c ∧ (∀ H', Same H H' → SqL K H' a xs ∨ SqT K H' a xs) ∧ (∀ H', Same H H' → SqL K H' c ys ∨ SqT K H' c ys) ∧
      DaAll S H xs ds ∧ DaAll S H ys es ∧ es.length ≤ L ∧ m = m' + 1 ∧ (∀ u ∈ es, Dd L m' u) ∧ (d = e ↔ ds = es) := by
  rcases isD_lt h with ⟨es, rfl⟩ | ⟨es, rfl⟩
  · obtain ⟨ds, rfl⟩ := isD_list (h1 rfl)
    cases hd with
    | @lst a xs _ _ ea ra =>
    cases he with
    | @lst c ys _ _ ec rc =>
    cases hD with
    | @lst m' _ hl hu =>
    exact ⟨a, c, xs, ys, ds, es, m', rfl, rfl, fun H' k => .inl (SqL.of (k _ _ ea)), fun H' k => .inl (SqL.of (k _ _ ec)), ra, rc, hl, rfl, hu, ⟨fun z => PyData.list.inj z, fun z => congrArg _ z⟩⟩
  · obtain ⟨ds, rfl⟩ := isD_tuple (h2 rfl)
    cases hd with
    | @tup a xs _ _ ea ra =>
    cases he with
    | @tup c ys _ _ ec rc =>
    cases hD with
    | @tup m' _ hl hu =>
    exact ⟨a, c, xs, ys, ds, es, m', rfl, rfl, fun H' k => .inr (SqT.of (k _ _ ea)), fun H' k => .inr (SqT.of (k _ _ ec)), ra, rc, hl, rfl, hu, ⟨fun z => PyData.tuple.inj z, fun z => congrArg _ z⟩⟩
/-- an item of a row, whatever the row -/
theorem ix_row {K : PySem.W.Frag} {H : Hp} {a : Addr} {xs : List V} {i : Nat} {v : V} {Q : VK} (h : SqL K H a xs ∨ SqT K H a xs) (e : xs[i]? = some v) (q : Q v H) : rIx K (.ref a) (.int (0 + i)) H Q := by
  rw [Int.zero_add]
  rcases h with h | h
  · exact .inl ⟨a, xs, _, v, rfl, rfl, h, atI_nat e, q⟩
  · exact .inr (.inl ⟨a, xs, _, v, rfl, rfl, h, atI_nat e, q⟩)
theorem ext_upto {ds es : List PyData} (hl : ds.length = es.length) (h : ∀ j : Nat, j < es.length → ds[j]? = es[j]?) : ds = es := by
  refine List.ext_getElem? fun j => ?_
  by_cases hj : j < es.length
  · exact h j hj
  · rw [List.getElem?_eq_none (by omega), List.getElem?_eq_none (by omega)]

/-! ### z[::-1] of a text -/
def revT (z : Str) : Str := ⟨z.cps.toList.reverse.toArray⟩
theorem revT_len (z : Str) : (revT z).length = z.length := by
  show z.cps.toList.reverse.toArray.size = z.cps.size
  simp
theorem rev_pick (z : Str) : (Builtin.Str.strSliceIndices none none (-1) z.length).filterMap (z.cps[·]?) = z.cps.toList.reverse := by
  show (sliceRange ((z.cps.size : Int) - 1) (-1) (-1)).filterMap (z.cps[·]?) = _
  rw [PySem.W.krv_sliceRange, PySem.W.krv_range, List.filterMap_reverse, PySem.W.krv_all]
def tRevS (te : TE) : TE := fun σ H Q => te σ H fun x H1 => ∃ z, x = .str z ∧ z.length ≤ sizeLine ∧ Q (.str (revT z)) H1
theorem pe_revS {X : Cx} {e : Expr} {te : TE} {k : Nat} {p1 p2 p3 pos : Pos} (he : PE X e te) : PE X (.Subscript e (.Slice none none (some (.UnaryOp .USub (.Constant (.int 1) k p1) p2)) p3) pos) (tRevS te) := by
  refine ⟨fun pins s σ H Q I h => ?_⟩
  refine Subscript_ (thn (he.run pins s σ H _ I h) fun v s1 ⟨x, H1, I1, r1, q1⟩ => ?_)
  obtain ⟨z, ex, hz, q⟩ := q1
  subst ex
  obtain ⟨tz, rfl⟩ := r1
  have hst : PO X (some (.UnaryOp .USub (.Constant (.int 1) k p1) p2)) (tPart (tUn (rU fun i => .int (-i)) (tC (.int 1)))) := po_some (pe_un un_neg pe_int)
  refine wpAny_Slice (thn (po_none.run pins s1 σ H1 (fun o H2 => o = none ∧ H2 = H1) I1 ⟨rfl, rfl⟩) fun vl s2 ⟨l, H2, I2, pl, el, e2⟩ => ?_)
  subst el e2
  refine thn (po_none.run pins s2 σ H2 (fun o H3 => o = none ∧ H3 = H2) I2 ⟨rfl, rfl⟩) fun vu s3 ⟨u, H3, I3, pu, eu, e3⟩ => ?_
  subst eu e3
  refine thn (hst.run pins s3 σ H3 (fun o H4 => o = some (-1) ∧ H4 = H3) I3 ⟨1, rfl, -1, rfl, rfl, rfl⟩) fun vs s4 ⟨o, H4, I4, ps, eo, e4⟩ => ?_
  subst eo e4
  have I5 : Inv X pins σ H4 { s4 with heap := s4.heap.push { cls := .type "slice", data := .fields #[vl, vu, vs] } } := I4.kept (t' := s4.toks) fun b ob q => Heap.get?_push_of_some _ q
  obtain ⟨l, rfl, hl⟩ := IsPart.raw pl
  obtain ⟨u, rfl, hu⟩ := IsPart.raw pu
  obtain ⟨st, rfl, hst⟩ := IsPart.raw ps
  show wpAny (model X.prog X.w) X.A (subscriptTail e (.Slice none none (some (.UnaryOp .USub (.Constant (.int 1) k p1) p2)) p3) (.str z tz) (.ref s4.heap.objs.size)) (EP X pins σ Q) X.xe { s4 with heap := s4.heap.push { cls := .type "slice", data := .fields #[partValue l, partValue u, partValue st] } }
  refine tail_any (ops := [.str z tz, .ref s4.heap.objs.size]) (typeIs_str _ _ _) F.slot_str_getitem.lookup ?_ (by with_unfolding_all rfl)
  refine wpAny_getItem_str_slice (l := l) (u := u) (st := st) ⟨_, Heap.get?_push_size _ rfl, rfl, rfl⟩ (by rw [hst]; rfl) ?_
  have e1 : sliceMade z tz l u st = Made.str (revT z) := by
    unfold sliceMade slicePicked
    rw [hl, hu, hst]
    show (if ((-1 : Int) == 1 && _) = true then _ else Made.str ⟨((Builtin.Str.strSliceIndices none none (-1) z.length).filterMap (z.cps[·]?)).toArray⟩) = _
    rw [rev_pick]
    rfl
  rw [e1]
  exact ⟨by rw [revT_len]; exact hz, .str _, H4, I5.tok _, ⟨_, rfl⟩, q⟩

theorem pick_data {K : PySem.W.Frag} {S : Av} {s p : Addr} {H : Hp} {xs : List V} {L n : Nat} {Q : VK} (hS : SO S s H) (np : H p = none) (hne : xs ≠ []) (hl : xs.length ≤ 1000000)
    (hx : ∀ v ∈ xs, ∃ d, Da S H v d ∧ Dd L n d) (q : ∀ (H' : Hp) (v : V) (d : PyData), Keep s H H' → SO S s H' → Da S H' v d → Dd L n d → Q v H') : sp_law_pick K [.ref s, .ref p] (upd H p (.lst xs)) Q E0 :=
  pick_list hS np hne hl fun H' v k _ so hv => let ⟨d, h1, h2⟩ := hx v hv; q H' v d k so (h1.keep k hS.at_) h2
theorem cutS_len (z : Str) (lo hi : Option Int) : (cutS z lo hi).length ≤ z.length := cutS_length z lo hi

theorem cutS_to (z : Str) (k : Nat) : (cutS z none (some (k : Int))).cps.toList = z.cps.toList.take k := by
  unfold cutS
  rw [HT.sIx_none, HT.sIx_nat]
  show List.take (min k z.length - 0) (List.drop 0 z.cps.toList) = _
  rw [List.drop_zero, Nat.sub_zero, str_len]
  by_cases h : k ≤ z.cps.toList.length
  · rw [Nat.min_eq_left h]
  · rw [Nat.min_eq_right (by omega), List.take_length, List.take_of_length_le (by omega)]
theorem cutS_from (z : Str) (k : Nat) : (cutS z (some (k : Int)) none).cps.toList = z.cps.toList.drop k := by
  unfold cutS
  rw [HT.sIx_none, HT.sIx_nat]
  show List.take (z.length - min k z.length) (List.drop (min k z.length) z.cps.toList) = _
  rw [str_len]
  by_cases h : k ≤ z.cps.toList.length
  · rw [Nat.min_eq_left h, List.take_of_length_le (by rw [List.length_drop]; omega)]
  · rw [Nat.min_eq_right (by omega), List.drop_length, List.drop_of_length_le (by omega), List.take_nil]

/-! ### rows: a list or a tuple -/
theorem PI.or {X : Cx} {tg e : Expr} {w1 w2 : TI} (h1 : PI X tg e w1) (h2 : PI X tg e w2) : PI X tg e (fun σ H R => w1 σ H R ∨ w2 σ H R) :=
  ⟨fun pins s σ H R I h => h.elim (h1.run pins s σ H R I) (h2.run pins s σ H R I)⟩
def iRow (K : PySem.W.Frag) (te : TE) : TI := fun σ H R => iList K te σ H R ∨ iTup K te σ H R
theorem pi_row {X : Cx} {tg e : Expr} {te : TE} (h : PE X e te) : PI X tg e (iRow X.K te) := PI.or (pi_list h) (pi_tup h)
/-- a list or a tuple that stays -/
def Row (K : PySem.W.Frag) (H : Hp) (a : Addr) (xs : List V) : Prop := SqL K H a xs ∨ SqT K H a xs
theorem Row.same {K : PySem.W.Frag} {H H' : Hp} {a : Addr} {xs : List V} (h : Row K H a xs) (e : Same H H') : Row K H' a xs := by
  rcases h with h | (h | ⟨o, h⟩) | h
  · exact .inl (e.seq h)
  · exact .inr (.inl (.inl (e _ _ h)))
  · exact .inr (.inl (.inr ⟨o, e _ _ h⟩))
  · exact .inr (.inr h)
theorem lc_row {K : PySem.W.Frag} {i : Nat} {a : Addr} {xs : List V} {g : TG} {tt : TT} {te : TE} {vs : List Nat} {σ : L2.St} {H : Hp} {Q : VK}
    (hσ : σ[i]? = some (some (.ref a))) (hr : Row K H a xs)
    (Pv : Addr → Nat → Hp → Prop) (hsm : ∀ D j H', H D = none → j ≤ xs.length → Pv D j H' → Same H H') (h0 : ∀ D, H D = none → Pv D 0 (upd H D (.lst [])))
    (hs : ∀ D j x H', H D = none → xs[j]? = some x → Pv D j H' → g x (wipe σ vs) H' fun σ2 H2 => wipe σ2 vs = wipe σ vs ∧ tt σ2 H2 fun b H3 =>
      if b = true then te σ2 H3 fun y H4 => ∃ acc, H4 D = some (.lst acc) ∧ acc.length < sizeLine ∧ Pv D (j + 1) (upd H4 D (.lst (acc ++ [y]))) else Pv D (j + 1) H3)
    (hd : ∀ D H', H D = none → Pv D xs.length H' → Q (.ref D) H') : tLc (iRow K (tVar i)) g tt te vs σ H Q := by
  rcases hr with hr | hr
  · refine Or.inl ⟨_, hσ, a, rfl, ⟨_, hr⟩, fun D nD => ?_⟩
    exact lc_list (K := K) (a := a) (xs := xs) (Pv D) (h0 D nD) (fun j H' hj p => (hsm D j H' nD hj p).seq hr) (fun j x H' e p => hs D j x H' nD e p) (fun H' p => hd D H' nD p)
  · refine Or.inr ⟨_, hσ, a, rfl, ⟨_, hr⟩, fun D nD => ?_⟩
    refine lc_tup (K := K) (a := a) (xs := xs) (Pv D) (h0 D nD) (fun j H' hj p => ?_) (fun j x H' e p => hs D j x H' nD e p) (fun H' p => hd D H' nD p)
    rcases hr with (h | ⟨o, h⟩) | h
    · exact .inl (.inl (hsm D j H' nD hj p _ _ h))
    · exact .inl (.inr ⟨o, hsm D j H' nD hj p _ _ h⟩)
    · exact .inr h
/-- a row of data -/
theorem row_of {K : PySem.W.Frag} {S : Av} {H : Hp} {x : V} {d : PyData} {L m : Nat} (h : (isD "list" d || isD "tuple" d) = true) (hd : Da S H x d) (hD : Dd L m d) :
    ∃ (a : Addr) (xs : List V) (ds : List PyData) (m' : Nat), x = .ref a ∧ ¬ S a ∧ Row K H a xs ∧ DaAll S H xs ds ∧ ds.length ≤ L ∧ m = m' + 1 ∧ (∀ u ∈ ds, Dd L m' u) ∧ (d = .list ds ∨ d = .tuple ds) := by
  rcases isD_lt h with ⟨ds, rfl⟩ | ⟨ds, rfl⟩
  · cases hd with
    | @lst a xs _ na ea ra =>
    cases hD with
    | @lst m' _ hl hu => exact ⟨a, xs, ds, m', rfl, na, .inl (SqL.of ea), ra, hl, rfl, hu, .inl rfl⟩
  · cases hd with
    | @tup a xs _ na ea ra =>
    cases hD with
    | @tup m' _ hl hu => exact ⟨a, xs, ds, m', rfl, na, .inr (SqT.of ea), ra, hl, rfl, hu, .inr rfl⟩
theorem Keep.row {K : PySem.W.Frag} {S : Av} {s : Addr} {H H' : Hp} {a : Addr} {xs : List V} (e : Keep s H H') (n : a ≠ s) (h : Row K H a xs) : Row K H' a xs := by
  rcases h with h | (h | ⟨o, h⟩) | h
  · exact .inl (e.seq n h)
  · exact .inr (.inl (.inl (e _ _ n h)))
  · exact .inr (.inl (.inr ⟨o, e _ _ n h⟩))
  · exact .inr (.inr h)

/-- an if with a word for each of its two ways: each way is shown once, however often the test comes to it -/
def tIfCut (c : TT) (t u : TS) : TS := fun D σ H => ∃ T F : Hp → Prop, (c σ H fun b H1 => if b = true then T H1 else F H1) ∧ (∀ H1, T H1 → t D σ H1) ∧ ∀ H1, F H1 → u D σ H1
theorem ps_ifCut {X : Cx} {pos : Pos} {c : Expr} {a b : List Stmt} {tc : TT} {t u : TS} (hc : PT X c tc) (ha : PSs X a t) (hb : PSs X b u) : PS X (.If c a b pos) (tIfCut tc t u) := by
  refine ⟨fun pins s σ H D I h => ?_⟩
  obtain ⟨T, F, h1, h2, h3⟩ := h
  refine wpAny_If (thn (hc.run pins s σ H _ I h1) fun d s1 ⟨H1, I1, q1⟩ => ?_)
  cases d with
  | true => exact ha.run pins s1 σ H1 D I1 (h2 H1 q1)
  | false => exact hb.run pins s1 σ H1 D I1 (h3 H1 q1)

theorem ix_some {j n : Nat} (h : j < n) : seqIndex? (j : Int) n = some j := by
  unfold seqIndex?
  have h1 : ¬ (j : Int) < 0 := by omega
  have h2 : (j : Int) < (n : Int) := by omega
  have h3 : (0 : Int) ≤ (j : Int) := by omega
  simp only [h1, if_false, h3, h2, decide_true, Bool.and_self, if_true, Int.toNat_natCast]
theorem ixN_some {j n : Nat} (h : j < n) : ixN n (j : Int) = some j := by
  unfold ixN
  rw [if_pos (by omega), if_pos (by omega), Int.toNat_natCast]
theorem Row.ix {K : PySem.W.Frag} {H : Hp} {a : Addr} {xs : List V} {i : Nat} {v : V} {Q : VK} (h : Row K H a xs) (e : xs[i]? = some v) (q : Q v H) : rIx K (.ref a) (.int i) H Q := by
  rcases h with h | h
  · exact .inl ⟨a, xs, _, v, rfl, rfl, h, atI_nat e, q⟩
  · exact .inr (.inl ⟨a, xs, _, v, rfl, rfl, h, atI_nat e, q⟩)

/-! ### one sign of a word changed -/
theorem nameL_eq {l : List Nat} (h : 1 ≤ l.length) : nameL l = (wordL l && decide (l.length ≤ 8)) := by
  cases l with
  | nil => exact absurd h (by decide)
  | cons c r =>
    rw [nameL_cons]
    show _ = ((isLet c && r.all (fun c => isLet c || isDig c)) && decide (r.length + 1 ≤ 8))
    have e : decide (r.length ≤ 7) = decide (r.length + 1 ≤ 8) := by
      rw [Bool.eq_iff_iff, decide_eq_true_eq, decide_eq_true_eq]; omega
    rw [e]
theorem swept {l : List Nat} {j c : Nat} (hw : wordL l = true) (hl : l.length ≤ 8) (hj : j < l.length) : nameL (l.take j ++ [c] ++ l.drop (j + 1)) = (isLet c || (decide (0 < j) && isDig c)) := by
  have hlen : (l.take j ++ [c] ++ l.drop (j + 1)).length = l.length := by
    rw [List.length_append, List.length_append, List.length_take, List.length_drop, List.length_singleton]
    omega
  rw [nameL_eq (by omega), hlen, decide_eq_true hl, Bool.and_true]
  cases l with
  | nil => exact absurd hj (Nat.not_lt_zero _)
  | cons a r =>
    obtain ⟨h1, h2⟩ := Bool.and_eq_true_iff.mp (show (isLet a && r.all (fun c => isLet c || isDig c)) = true from hw)
    cases j with
    | zero =>
      show (isLet c && r.all (fun c => isLet c || isDig c)) = _
      rw [h2, Bool.and_true, show decide (0 < 0) = false from rfl, Bool.false_and, Bool.or_false]
    | succ j =>
      show (isLet a && (r.take j ++ [c] ++ r.drop (j + 1)).all (fun c => isLet c || isDig c)) = _
      have h3 : (r.take j).all (fun c => isLet c || isDig c) = true := List.all_eq_true.mpr fun x hx => List.all_eq_true.mp h2 x (List.mem_of_mem_take hx)
      have h4 : (r.drop (j + 1)).all (fun c => isLet c || isDig c) = true := List.all_eq_true.mpr fun x hx => List.all_eq_true.mp h2 x (List.mem_of_mem_drop hx)
      rw [List.all_append, List.all_append, h1, h3, h4, show decide (0 < j + 1) = true from decide_eq_true (by omega)]
      simp
theorem decide_pos (j : Nat) : decide ((0 : Int) < (j : Int)) = decide (0 < j) := by
  rw [Bool.eq_iff_iff, decide_eq_true_eq, decide_eq_true_eq]; omega

theorem row_name {l : List Nat} {k : Nat} (hw : wordL l = true) (hl : l.length = 12) (hk : k ≤ 12) : nameL (l.take k) = (decide (1 ≤ k) && decide (k ≤ 8)) := by
  cases k with
  | zero => rfl
  | succ k =>
    have hlen : (l.take (k + 1)).length = k + 1 := by rw [List.length_take]; omega
    rw [nameL_eq (by omega), hlen, decide_eq_true (show 1 ≤ k + 1 by omega), Bool.true_and]
    cases l with
    | nil => cases hl
    | cons a r =>
      obtain ⟨h1, h2⟩ := Bool.and_eq_true_iff.mp (show (isLet a && r.all (fun c => isLet c || isDig c)) = true from hw)
      show ((isLet a && (r.take k).all (fun c => isLet c || isDig c)) && _) = _
      have h3 : (r.take k).all (fun c => isLet c || isDig c) = true := List.all_eq_true.mpr fun x hx => List.all_eq_true.mp h2 x (List.mem_of_mem_take hx)
      rw [h1, h3]
      rfl

/-! ### from the head's facts to calls by name -/
section
variable {P : Program} {w : World} {K : PySem.W.Frag} {mg : Str → Option Value} {base : Heap} {x qual : Str} {st : Stmt} {f : Addr} {fd : FuncData} {ps : List Str} {sp : Sp} {k j : Nat}
theorem fun_of (F : FunD K x qual (defArgs st) (defBody st) (defScope st) [] [] f fd) : Fun K x qual st f fd := by
  obtain ⟨oc, od, dV, kV, doc, pm, an, cdv, ct, osl, rfl, lk, hcd, hD, hK⟩ := F.ex
  rcases hD with ⟨_, rfl⟩ | ⟨e, _⟩
  · exact ⟨⟨oc, od, kV, doc, pm, an, cdv, ct, osl, rfl, lk, hcd⟩, F.kp⟩
  · exact absurd rfl e
theorem kbn_of (F : Fun K x qual st f fd)
    (h : ∀ (kV doc pm : Value) (an : Option Addr) (cdv ct : Value) (ws : List Value), ws.length = ps.length → bindArgs (PySem.W.fnOf x qual (defArgs st) (defBody st) (defScope st) .none kV doc pm an cdv ct) ⟨[], ps.zip ws⟩ = pure (ps.zip ws)) :
    KBn K fd ps 0 ps (fun _ ws => ws) (fun _ zs => zs) := by
  obtain ⟨oc, od, kV, doc, pm, an, cdv, ct, osl, rfl, lk, hcd⟩ := F.ex
  refine ⟨fun s us ws _ h1 h2 => ?_, fun _ r => r⟩
  have e : us = [] := List.eq_nil_of_length_eq_zero h1
  subst e
  exact .of_eq (h kV doc pm an cdv ct ws h2)
theorem Own.mk' (F : Fun K x qual st f fd) (ok : FnOk P w K mg base CX0 k f fd ps sp) (g : mg x = some (.ref f)) (b : Binds K fd ps []) (kb : KBn K fd ps 0 ps (fun _ ws => ws) (fun _ zs => zs)) : Own P w K mg base k x ps sp := ⟨f, fd, ok, g, F.kp, b, kb⟩
theorem Own.up (O : Own P w K mg base k x ps sp) (h : k ≤ j) : Own P w K mg base j x ps sp := by
  obtain ⟨f, fd, F, r⟩ := O.ex
  exact ⟨f, fd, F.mono h, r⟩
end
end Lg

namespace Pf
open PySem PySem.Spec PyProof.Rows L2
open Lg
local macro_rules | `(tactic| walk_at "gs") => `(tactic| first | rfl | assumption | (apply And.intro) | (apply Exists.intro) | (exact upd_same) | (exact SqL.of (by assumption)) | (exact SqL.of upd_same) | (exact (show (0 : Int) < _ from by decide)) | (exact Or.inr ⟨by decide, by decide⟩) | (exact Or.inl ⟨by decide, by decide⟩) | decide | (exact line_le (Nat.le_of_ble_eq_true rfl)) | (refine Or.inl ?_))
local macro_rules | `(tactic| walk_at "go") => `(tactic| repeat' (walk_at "gs"))
def topS (i : Nat) : Stmt := PySem.Challenge.pw_levelgifts_k00_names.main.body.getD i (.Pass ⟨0, 0, 0, 0⟩)
abbrev s_is_name : Stmt := topS 4
abbrev s_law_mix : Stmt := topS 6
abbrev s_law_store : Stmt := topS 7
abbrev s_law_take : Stmt := topS 8
abbrev s_law_pick : Stmt := topS 9
abbrev s_law_number : Stmt := topS 10
abbrev s_law_same : Stmt := topS 11
abbrev s_law_copy : Stmt := topS 12
abbrev s_law_sign : Stmt := topS 13
abbrev s_law_string : Stmt := topS 14
abbrev s_law_atom : Stmt := topS 15
abbrev s_law_plain : Stmt := topS 16
abbrev s_law_bend : Stmt := topS 17
abbrev s_law_bend_row : Stmt := topS 18
abbrev s_law_bend_atom : Stmt := topS 19
abbrev s_law_is_name : Stmt := topS 20
abbrev s_law_word : Stmt := topS 21
abbrev s_law_no_name : Stmt := topS 22
abbrev s_law_bad_name : Stmt := topS 23
abbrev s_law_value : Stmt := topS 24
abbrev s_law_told : Stmt := topS 25
abbrev s_law_swept : Stmt := topS 26
abbrev s_law : Stmt := topS 27
theorem sc_is_name : FnScope ["value", "sign"] ["value"] (defScope s_is_name) := ⟨rfl, rfl, rfl, by decide +kernel, rfl, by decide +kernel, by decide +kernel⟩
theorem sc_law_mix : FnScope ["cell", "turn", "one"] ["cell", "turn"] (defScope s_law_mix) := ⟨rfl, rfl, rfl, by decide +kernel, rfl, by decide +kernel, by decide +kernel⟩
theorem sc_law_store : FnScope ["script", "cell", "cells", "seed"] ["script"] (defScope s_law_store) := ⟨rfl, rfl, rfl, by decide +kernel, rfl, by decide +kernel, by decide +kernel⟩
theorem sc_law_take : FnScope ["store", "many", "cell", "given"] ["store", "many"] (defScope s_law_take) := ⟨rfl, rfl, rfl, by decide +kernel, rfl, by decide +kernel, by decide +kernel⟩
theorem sc_law_pick : FnScope ["store", "things"] ["store", "things"] (defScope s_law_pick) := ⟨rfl, rfl, rfl, by decide +kernel, rfl, by decide +kernel, by decide +kernel⟩
theorem sc_law_number : FnScope ["store", "how", "number", "turn"] ["store"] (defScope s_law_number) := ⟨rfl, rfl, rfl, by decide +kernel, rfl, by decide +kernel, by decide +kernel⟩
theorem sc_law_same : FnScope ["given", "due", "k"] ["given", "due"] (defScope s_law_same) := ⟨rfl, rfl, rfl, by decide +kernel, rfl, by decide +kernel, by decide +kernel⟩
theorem sc_law_copy : FnScope ["value", "part"] ["value"] (defScope s_law_copy) := ⟨rfl, rfl, rfl, by decide +kernel, rfl, by decide +kernel, by decide +kernel⟩
theorem sc_law_sign : FnScope ["store", "signs"] ["store"] (defScope s_law_sign) := ⟨rfl, rfl, rfl, by decide +kernel, rfl, by decide +kernel, by decide +kernel⟩
theorem sc_law_string : FnScope ["store", "out", "turn"] ["store"] (defScope s_law_string) := ⟨rfl, rfl, rfl, by decide +kernel, rfl, by decide +kernel, by decide +kernel⟩
theorem sc_law_atom : FnScope ["store", "how"] ["store"] (defScope s_law_atom) := ⟨rfl, rfl, rfl, by decide +kernel, rfl, by decide +kernel, by decide +kernel⟩
theorem sc_law_plain : FnScope ["store", "value", "many", "turn", "parts", "step"] ["store"] (defScope s_law_plain) := ⟨rfl, rfl, rfl, by decide +kernel, rfl, by decide +kernel, by decide +kernel⟩
theorem sc_law_bend : FnScope ["store", "paper", "parts", "at", "part"] ["store", "paper"] (defScope s_law_bend) := ⟨rfl, rfl, rfl, by decide +kernel, rfl, by decide +kernel, by decide +kernel⟩
theorem sc_law_bend_row : FnScope ["store", "paper", "parts", "how", "at", "near", "part"] ["store", "paper"] (defScope s_law_bend_row) := ⟨rfl, rfl, rfl, by decide +kernel, rfl, by decide +kernel, by decide +kernel⟩
theorem sc_law_bend_atom : FnScope ["store", "value", "near", "far"] ["store", "value"] (defScope s_law_bend_atom) := ⟨rfl, rfl, rfl, by decide +kernel, rfl, by decide +kernel, by decide +kernel⟩
theorem sc_law_is_name : FnScope ["value", "sign"] ["value"] (defScope s_law_is_name) := ⟨rfl, rfl, rfl, by decide +kernel, rfl, by decide +kernel, by decide +kernel⟩
theorem sc_law_word : FnScope ["store", "size", "word", "turn"] ["store", "size"] (defScope s_law_word) := ⟨rfl, rfl, rfl, by decide +kernel, rfl, by decide +kernel, by decide +kernel⟩
theorem sc_law_no_name : FnScope ["store", "how", "word", "at"] ["store"] (defScope s_law_no_name) := ⟨rfl, rfl, rfl, by decide +kernel, rfl, by decide +kernel, by decide +kernel⟩
theorem sc_law_bad_name : FnScope ["store", "word"] ["store"] (defScope s_law_bad_name) := ⟨rfl, rfl, rfl, by decide +kernel, rfl, by decide +kernel, by decide +kernel⟩
theorem sc_law_value : FnScope ["store", "how", "word", "near"] ["store"] (defScope s_law_value) := ⟨rfl, rfl, rfl, by decide +kernel, rfl, by decide +kernel, by decide +kernel⟩
theorem sc_law_told : FnScope ["value", "due", "kept", "right"] ["value", "due"] (defScope s_law_told) := ⟨rfl, rfl, rfl, by decide +kernel, rfl, by decide +kernel, by decide +kernel⟩
theorem sc_law_swept : FnScope ["word", "at", "letters", "signs", "sign", "due"] ["word", "at"] (defScope s_law_swept) := ⟨rfl, rfl, rfl, by decide +kernel, rfl, by decide +kernel, by decide +kernel⟩
theorem sc_law : FnScope ["script", "store", "values", "value", "word", "row", "size", "turn"] ["script"] (defScope s_law) := ⟨rfl, rfl, rfl, by decide +kernel, rfl, by decide +kernel, by decide +kernel⟩
structure Txt (w : World) (K : PySem.W.Frag) (mg : Str → Option Value) : Prop where
  len : mg "len" = none
  LONGEST_NAME : ∃ t, mg "LONGEST_NAME" = some (.int 8 t)
  isinstance : mg "isinstance" = none
  str : mg "str" = none
  all : mg "all" = none
  LETTERS : ∃ t, mg "LETTERS" = some (.str "abcdefghijklmnopqrstuvwxyz" t)
  DIGITS : ∃ t, mg "DIGITS" = some (.str "0123456789" t)
  int : mg "int" = none
  max : mg "max" = none
  abs : mg "abs" = none
  range : mg "range" = none
  tuple : mg "tuple" = none
  list : mg "list" = none
  bool : mg "bool" = none
def sp_is_name : Sp := fun vs H Q _ => ∃ (S : Av) (x : V) (d : PyData) (L m : Nat), vs = [x] ∧ Da S H x d ∧ Dd L m d ∧ L ≤ 1000000 ∧ ∀ H', Same H H' → Q (.bl (nameD d)) H'




def sp_law_number : Sp := fun vs H Q _ => ∃ (S : Av) (s : Addr), vs = [.ref s] ∧ SO S s H ∧ ∀ (H' : Hp) (n : Int), Keep s H H' → SO S s H' → Q (.int n) H'
def sp_law_same (n : Nat) : Sp := fun vs H Q _ => ∃ (S : Av) (x y : V) (d e : PyData) (L m : Nat), vs = [x, y] ∧ Al S H ∧ Da S H x d ∧ Da S H y e ∧ Dd L m e ∧ m < n ∧ L ≤ 1000000 ∧ ∀ (H' : Hp) (b : Bool), Same H H' → (b = true ↔ d = e) → Q (.bl b) H'
def sp_law_copy (n : Nat) : Sp := fun vs H Q _ => ∃ (S : Av) (x : V) (d : PyData) (L m : Nat), vs = [x] ∧ Al S H ∧ Da S H x d ∧ Dd L m d ∧ m < n ∧ L ≤ 1000000 ∧ ∀ (H' : Hp) (v : V), Same H H' → Da S H' v d → Q v H'
def sp_law_sign : Sp := fun vs H Q _ => ∃ (S : Av) (s : Addr), vs = [.ref s] ∧ SO S s H ∧ ∀ (H' : Hp) (c : Nat), Keep s H H' → SO S s H' → Q (.str ⟨#[c]⟩) H'
def sp_law_string : Sp := fun vs H Q _ => ∃ (S : Av) (s : Addr), vs = [.ref s] ∧ SO S s H ∧ ∀ (H' : Hp) (z : Str), Keep s H H' → SO S s H' → z.length ≤ 4000 → Q (.str z) H'
def sp_law_atom : Sp := fun vs H Q _ => ∃ (S : Av) (s : Addr), vs = [.ref s] ∧ SO S s H ∧ ∀ (H' : Hp) (v : V) (d : PyData), Keep s H H' → SO S s H' → (∀ (S : Av) (H2 : Hp), Da S H2 v d) → Dd 4000 0 d → Q v H'
def sp_law_plain : Sp := fun vs H Q _ => ∃ (S : Av) (s : Addr), vs = [.ref s] ∧ SS S s H ∧ ∀ (H' : Hp) (v : V) (d : PyData), Keep s H H' → SO S s H' → Da S H' v d → Dd 4000 60 d → Q v H'
def sp_law_bend (n : Nat) : Sp := fun vs H Q _ => ∃ (S : Av) (s : Addr) (x : V) (d : PyData) (L m : Nat), vs = [.ref s, x] ∧ SS S s H ∧ Da S H x d ∧ Dd L m d ∧ m < n ∧ m ≤ 69 ∧ 4000 ≤ L ∧ L ≤ 900000 ∧ ∀ (H' : Hp) (v : V) (d : PyData), Keep s H H' → SO S s H' → Da S H' v d → Dd (L + 1) (m + 1) d → Q v H'
def sp_law_bend_row (n : Nat) : Sp := fun vs H Q _ => ∃ (S : Av) (s : Addr) (x : V) (d : PyData) (L m : Nat), vs = [.ref s, x] ∧ SS S s H ∧ Da S H x d ∧ (isD "list" d || isD "tuple" d) = true ∧ Dd L m d ∧ m < n ∧ 4000 ≤ L ∧ L ≤ 900000 ∧ ∀ (H' : Hp) (v : V) (d : PyData), Keep s H H' → SO S s H' → Da S H' v d → Dd (L + 1) (m + 1) d → Q v H'
def sp_law_bend_atom : Sp := fun vs H Q _ => ∃ (S : Av) (s : Addr) (x : V) (d : PyData) (L : Nat), vs = [.ref s, x] ∧ SS S s H ∧ (∀ (S : Av) (H2 : Hp), Da S H2 x d) ∧ Dd L 0 d ∧ 4000 ≤ L ∧ L ≤ 900000 ∧ ∀ (H' : Hp) (v : V) (d : PyData), Keep s H H' → SO S s H' → Da S H' v d → Dd L 1 d → Q v H'
def sp_law_is_name : Sp := fun vs H Q _ => ∃ (S : Av) (x : V) (d : PyData) (L m : Nat), vs = [x] ∧ Da S H x d ∧ Dd L m d ∧ L ≤ 1000000 ∧ Q (.bl (nameD d)) H
def sp_law_word : Sp := fun vs H Q _ => ∃ (S : Av) (s : Addr) (n : Int), vs = [.ref s, .int n] ∧ SO S s H ∧ 1 ≤ n ∧ n ≤ 4000 ∧ ∀ (H' : Hp) (z : Str), Keep s H H' → SO S s H' → (z.length : Int) = n → wordL z.cps.toList = true → Q (.str z) H'
def sp_law_no_name : Sp := fun vs H Q _ => ∃ (S : Av) (s : Addr), vs = [.ref s] ∧ SO S s H ∧ ∀ (H' : Hp) (z : Str), Keep s H H' → SO S s H' → z.length ≤ 100 → Q (.str z) H'
def sp_law_bad_name : Sp := fun vs H Q _ => ∃ (S : Av) (s : Addr), vs = [.ref s] ∧ SS S s H ∧ ∀ (H' : Hp) (v : V) (d : PyData), Keep s H H' → SO S s H' → Da S H' v d → Dd 4000 1 d → Q v H'
def sp_law_value : Sp := fun vs H Q _ => ∃ (S : Av) (s : Addr), vs = [.ref s] ∧ SS S s H ∧ ∀ (H' : Hp) (v : V) (d : PyData), Keep s H H' → SO S s H' → Da S H' v d → Dd 5000 60 d → Q v H'
def sp_law_told : Sp := fun vs H Q _ => ∃ (S : Av) (x : V) (d : PyData) (b : Bool) (L m : Nat), vs = [x, .bl b] ∧ Al S H ∧ Da S H x d ∧ Dd L m d ∧ m ≤ 70 ∧ L ≤ 1000000 ∧ b = nameD d ∧ ∀ H', Same H H' → Q (.bl true) H'
def sp_law_swept : Sp := fun vs H Q _ => ∃ (S : Av) (z : Str) (j : Nat), vs = [.str z, .int j] ∧ Al S H ∧ wordL z.cps.toList = true ∧ z.length ≤ 8 ∧ j < z.length ∧ ∀ H', Same H H' → Q (.bl true) H'
def sp_law (K : PySem.W.Frag) : Sp := fun vs H Q _ => ∃ (a : Addr) (ns : List Int), vs = [.ref a] ∧ SqL K H a (ns.map V.int) ∧ ns.length ≤ 63 ∧ ∀ H', Q (.bl true) H'
section
variable {P : Program} {w : World} {K : PySem.W.Frag} {mg : Str → Option Value} {base : Heap} {f : Addr} {fd : FuncData} {k : Nat}

set_option maxHeartbeats 4000000 in
theorem ok_is_name  (F : Fun K "is_name" "is_name" s_is_name f fd) (T : Txt w K mg) : FnOk P w K mg base CX0 (k + 1) f fd ["value"] (sp_is_name) := by
  refine F.ok sc_is_name (fun vs H Q E h => ?_) (fun cdv A outer s0 H vs Q E hr h => ?_)
  · obtain ⟨S, x, d, L, m, rfl, hd, hD, hL, q⟩ := h
    rfl
  · obtain ⟨S, x, d, L, m, rfl, hd, hD, hL, q⟩ := h
    refine ⟨_, (pss_cons (ps_if (PW.pt (pw_or (pt_not (pt_val (pe_callB call_isD (by rfl) T.isinstance (by decide +kernel) (pa_cons (pv 0) (pa_cons (pe_bltn (v := .ty "str") (by rfl) T.str (by decide +kernel) rfl) pa_nil))))) (pw_or1 (pt_not (pt_chain op_le op_le pe_int (pe_callB call_len_str (by rfl) T.len PySem.boot_len (pa_cons (pv 0) pa_nil)) (pe_gint (by rfl) T.LONGEST_NAME))))))
        (pss_one (ps_ret pe_bl))
        pss_nil)
      (pss_one (ps_ret (pe_and (pe_cmpR op_in_sign (pe_ix ix_str (pv 0) pe_int (fun _ _ => rfl)) (pe_gstr (by rfl) T.LETTERS) rfl) (pe_one (pe_callB (cr_all rfl) (by rfl) T.all (by decide +kernel) (pa_cons (pe_lc (own := [("sign", 1)]) (by rfl) sc_is_name.nd (pi_str (pv 0)) (blkOk_by (own := [("sign", 1)]) (N := ["value", "sign"]) (sc := defScope s_is_name) (by decide +kernel)) (fun _ _ _ _ _ => pg_name (i := 1) sc_is_name.nd rfl (Or.inl rfl)) (fun _ _ _ _ _ => pts_nil) (fun _ _ _ _ _ => (pe_cmpR op_in_sign (pv 1) (pe_op op_add_str (pe_gstr (by rfl) T.LETTERS) (pe_gstr (by rfl) T.DIGITS)) rfl))) pa_nil))))))), ?_⟩
    refine ⟨_, rfl, ?_⟩
    refine ⟨x, "str", S, d, rfl, rfl, hd, ?_⟩
    refine ⟨_, rfl, ?_⟩
    cases hs : isD "str" d with
    | false =>
      have e : nameD d = false := by cases d <;> first | rfl | (exact absurd hs (by simp only [isD, tyN]; decide))
      rw [e] at q
      exact q _ (Same.refl _)
    | true =>
    obtain ⟨z, rfl⟩ := isD_str hs
    cases hd
    cases hD with
    | str _ hz =>
    have hzl : z.length ≤ sizeLine := line_le (by omega)
    refine ⟨_, rfl, z, rfl, hzl, _, _, rfl, rfl, _, rfl, ?_⟩
    have q0 : nameD (.str z) = false → Q (.bl false) H := fun e => by
      rw [e] at q
      exact q _ (Same.refl _)
    by_cases h1 : (1 : Int) ≤ (z.length : Int)
    case neg =>
      rw [decide_eq_false h1]
      refine ⟨_, rfl, q0 ?_⟩
      have hl : z.cps.toList.length = 0 := by rw [← str_len]; omega
      show nameL z.cps.toList = false
      rw [List.eq_nil_of_length_eq_zero hl]
      rfl
    rw [decide_eq_true h1]
    refine ⟨_, _, rfl, rfl, _, rfl, ?_⟩
    by_cases h2 : (z.length : Int) ≤ 8
    case neg =>
      rw [decide_eq_false h2]
      exact q0 (nameL_long (by rw [← str_len]; omega))
    rw [decide_eq_true h2]
    obtain ⟨c, r, hcr⟩ : ∃ c r, z.cps.toList = c :: r := by
      cases hh : z.cps.toList with
      | nil => rw [str_len, hh] at h1; exact absurd h1 (by decide)
      | cons c r => exact ⟨c, r, rfl⟩
    have e : nameD (.str z) = (isLet c && z.cps.toList.all (fun c => isLet c || isDig c)) := by
      show nameL z.cps.toList = _
      rw [hcr, nameL_cons, List.all_cons]
      have hl : (c :: r).length ≤ 8 := by
        rw [← hcr, ← str_len]
        omega
      rw [List.length_cons] at hl
      rw [show decide (r.length ≤ 7) = true from decide_eq_true (by omega), Bool.and_true]
      cases isLet c <;> rfl
    rw [e] at q
    refine ⟨_, rfl, z, 0, c, rfl, rfl, hzl, atI_nat (j := 0) (by rw [hcr]; rfl), c, _, rfl, rfl, _, rfl, ?_⟩
    rw [decide_mem_let]
    cases hc : isLet c with
    | false =>
      rw [hc] at q
      exact q _ (Same.refl _)
    | true =>
    rw [hc, Bool.true_and] at q
    refine ⟨_, rfl, z, rfl, fun D nD => ?_⟩
    refine lc_it walk_str (fun i H' => Same H H' ∧ H' D = some (.lst (((z.cps.toList.take i).map (fun c => isLet c || isDig c)).map V.bl))) ⟨same_new (Same.refl H) nD, upd_same⟩ (fun _ _ _ _ => trivial) ?_ ?_
    · rintro i x H1 H2 hi ⟨sm, eD⟩ ⟨rfl, c1, hc1, rfl⟩
      refine ⟨rfl, ?_⟩
      refine ⟨_, rfl, _, _, rfl, rfl, by decide +kernel, c1, _, rfl, rfl, _, eD, ?_, fun b o eb => ?_, ?_⟩
      · rw [List.length_map, List.length_map, List.length_take]
        exact line_lt (Nat.le_trans (Nat.min_le_right _ _) (by rw [← str_len]; omega))
      · rw [upd_ne (ne_of_none eb nD)]
        exact sm _ _ eb
      · rw [upd_same, ← take_snoc (str_at hc1), List.map_append, List.map_append]
        rw [show decide (c1 ∈ (("abcdefghijklmnopqrstuvwxyz" : Str) ++ ("0123456789" : Str)).cps.toList) = (isLet c1 || isDig c1) from decide_mem_ld c1]
        rfl
    rintro H1 ⟨sm, eD⟩
    refine ⟨D, _, rfl, SqL.of eD, ?_⟩
    rw [← Array.length_toList, List.take_length, List.all_map]
    exact q _ sm


set_option maxHeartbeats 4000000 in
theorem ok_law_mix  (F : Fun K "_law_mix" "_law_mix" s_law_mix f fd) (T : Txt w K mg) : FnOk P w K mg base CX0 (k + 1) f fd ["cell", "turn"] (sp_law_mix) := by
  refine F.ok sc_law_mix (fun vs H Q E h => ?_) (fun cdv A outer s0 H vs Q E hr h => ?_)
  · obtain ⟨a, b, rfl, q⟩ := h
    rfl
  · obtain ⟨a, b, rfl, q⟩ := h
    refine ⟨_, (pss_cons (ps_set (i := 2) sc_law_mix.nd rfl (Or.inl rfl) (pe_op op_mod (pe_callTy call_int1 (by rfl) T.int (by decide +kernel) (pa_cons (pe_op op_add (pe_op op_add (pe_op op_mul (pe_op op_mod (pe_callTy call_int1 (by rfl) T.int (by decide +kernel) (pa_cons (pv 0) pa_nil)) pe_int) pe_int) (pe_op op_mul (pv 1) pe_int)) pe_int) pa_nil)) pe_int))
      (pss_cons (ps_set (i := 2) sc_law_mix.nd rfl (Or.inl rfl) (pe_op op_mod (pe_callTy call_int1 (by rfl) T.int (by decide +kernel) (pa_cons (pe_op op_mul (pe_op op_xor (pv 2) (pe_op op_fdiv (pv 2) pe_int)) pe_int) pa_nil)) pe_int))
      (pss_cons (ps_set (i := 2) sc_law_mix.nd rfl (Or.inl rfl) (pe_op op_mod (pe_callTy call_int1 (by rfl) T.int (by decide +kernel) (pa_cons (pe_op op_mul (pe_op op_xor (pv 2) (pe_op op_fdiv (pv 2) pe_int)) pe_int) pa_nil)) pe_int))
      (pss_one (ps_ret (pe_op op_xor (pv 2) (pe_op op_fdiv (pv 2) pe_int))))))), ?_⟩
    walk_at "go"
    exact q _


set_option maxHeartbeats 4000000 in
theorem ok_law_store  (F : Fun K "_law_store" "_law_store" s_law_store f fd) (T : Txt w K mg)
    (O_law_mix : Own P w K mg base k "_law_mix" ["cell", "turn"] (sp_law_mix)) : FnOk P w K mg base CX0 (k + 1) f fd ["script"] (sp_law_store K) := by
  refine F.ok sc_law_store (fun vs H Q E h => ?_) (fun cdv A outer s0 H vs Q E hr h => ?_)
  · obtain ⟨a, ns, rfl, hS, hlen, q⟩ := h
    rfl
  · obtain ⟨a, ns, rfl, hS, hlen, q⟩ := h
    refine ⟨_, (pss_cons (ps_setLc (i := 2) (own := [("cell", 1)]) (by rfl) sc_law_store.nd rfl rfl (sw_true rfl rfl rfl (by decide +kernel)) (pi_list (pv 0)) (blkOk_by (own := [("cell", 1)]) (N := ["script", "cell", "cells", "seed"]) (sc := defScope s_law_store) (by decide +kernel)) (fun _ _ _ _ _ => pg_name (i := 1) sc_law_store.nd rfl (Or.inl rfl)) (fun _ _ _ _ _ => pts_nil) (fun _ _ _ _ _ => (pe_callTy call_int1 (by rfl) T.int (by decide +kernel) (pa_cons (pv 1) pa_nil))))
      (pss_cons (ps_set (i := 3) sc_law_store.nd rfl (Or.inl rfl) (pe_op op_add (pe_callB call_len_seq (by rfl) T.len PySem.boot_len (pa_cons (pv 2) pa_nil)) pe_int))
      (pss_cons (ps_for PassesOwn.never rfl (pi_list (pv 2)) (pg_name (i := 1) sc_law_store.nd rfl (Or.inl rfl))
        (pss_one (ps_set (i := 3) sc_law_store.nd rfl (Or.inl rfl) (pe_own O_law_mix hr (by rfl) (pa_cons (pe_op op_add (pv 1) (pv 3)) (pa_cons (pv 3) pa_nil))))))
      (pss_one (ps_ret (pe_lst (pa_cons (pv 2) (pa_cons pe_int (pa_cons pe_int (pa_cons (pv 3) (pa_cons pe_int pa_nil))))))))))), ?_⟩
    refine ⟨_, rfl, a, rfl, ⟨_, hS⟩, fun D nD => ?_⟩
    have hm : (ns.map V.int).length = ns.length := List.length_map ..
    refine lc_list (K := K) (a := a) (xs := ns.map V.int) (fun i H' => Same H H' ∧ H' D = some (.lst ((ns.take i).map V.int))) ⟨same_new (Same.refl H) nD, upd_same⟩ (fun i H' _ hp => hp.1.seq hS) ?_ ?_
    · rintro i x H' hi ⟨sm, eD⟩
      obtain ⟨n, hn, rfl⟩ := int_at hi
      refine ⟨rfl, ?_⟩
      refine ⟨_, rfl, .inl ⟨n, rfl, _, eD, ?_, ?_, ?_⟩⟩
      · rw [List.length_map, List.length_take]
        exact Nat.lt_of_le_of_lt (Nat.min_le_right _ _) (line_lt (by omega))
      · intro b o e
        rw [upd_ne (ne_of_none e nD)]
        exact sm b o e
      · rw [upd_same, ← take_snoc hn, List.map_append]
        rfl
    rintro H1 ⟨sm, eD⟩
    rw [hm, List.take_length] at eD
    refine ⟨_, rfl, D, _, rfl, .inl (SqL.of eD), _, _, rfl, rfl, ?_⟩
    refine ⟨_, rfl, D, rfl, ⟨_, SqL.of eD⟩, for_list (K := K) (a := D) (xs := ns.map V.int) (fun i σ H' => H' = H1 ∧ ∃ c v, σ = [some (.ref a), c, some (.ref D), some (.int v)]) ⟨rfl, _, _, rfl⟩ (fun i σ H' _ hp => by rw [hp.1]; exact SqL.of eD) ?_ ?_⟩
    · rintro i x σ H' hi ⟨rfl, c, v, rfl⟩
      obtain ⟨n, hn, rfl⟩ := int_at hi
      refine ⟨_, rfl, _, rfl, _, _, rfl, rfl, _, rfl, _, _, rfl, fun r => ⟨rfl, _, _, rfl⟩⟩
    rintro σ H' ⟨rfl, c, v, rfl⟩
    refine ⟨_, rfl, _, rfl, (by show 5 ≤ sizeLine; decide), fun p np => ?_⟩
    refine q _ (fun b => b = p ∨ b = D) p (same_new sm (sm.free np)) (fun b hb => ?_) ⟨.inl rfl, D, ns, 0, 0, v, 0, upd_same, ne_of_none eD np, ?_, by decide, by decide, .inr rfl⟩
    · rcases hb with rfl | rfl
      · exact ⟨_, upd_same⟩
      · exact ⟨_, by rw [upd_ne (ne_of_none eD np)]; exact eD⟩
    rw [upd_ne (ne_of_none eD np)]
    exact eD


set_option maxHeartbeats 4000000 in
theorem ok_law_take  (F : Fun K "_law_take" "_law_take" s_law_take f fd) (T : Txt w K mg)
    (O_law_mix : Own P w K mg base k "_law_mix" ["cell", "turn"] (sp_law_mix)) : FnOk P w K mg base CX0 (k + 1) f fd ["store", "many"] (sp_law_take) := by
  refine F.ok sc_law_take (fun vs H Q E h => ?_) (fun cdv A outer s0 H vs Q E hr h => ?_)
  · obtain ⟨S, s, m, rfl, hS, hm, q⟩ := h
    rfl
  · obtain ⟨S, s, m, rfl, hS, hm, q⟩ := h
    refine ⟨_, (pss_cons (ps_set (i := 1) sc_law_take.nd rfl (Or.inl rfl) (pe_callB (call_max2 rfl) (by rfl) T.max (by decide +kernel) (pa_cons pe_int (pa_cons (pe_callTy call_int1 (by rfl) T.int (by decide +kernel) (pa_cons (pv 1) pa_nil)) pa_nil))))
      (pss_cons (ps_if (pt_cmpR op_eq (pv 1) pe_int (nomark _))
        (pss_one (ps_ret pe_int))
        pss_nil)
      (pss_cons (ps_asg (pe_op op_add (pe_ix ix_list (pv 0) pe_int (fun _ _ => rfl)) pe_int) (pg_sub (pv 0) pe_int set_list))
      (pss_cons (ps_if (PW.pt (pw_and (pt_cmpR op_eq (pe_ix ix_list (pv 0) pe_int (fun _ _ => rfl)) pe_int (nomark _)) (pw_and1 (pt_cmpR op_lt (pe_ix ix_list (pv 0) pe_int (fun _ _ => rfl)) (pe_callB call_len_seq (by rfl) T.len PySem.boot_len (pa_cons (pe_ix ix_list (pv 0) pe_int (fun _ _ => rfl)) pa_nil)) (nomark _)))))
        (pss_cons (ps_set (i := 2) sc_law_take.nd rfl (Or.inl rfl) (pe_ix ix_list (pe_ix ix_list (pv 0) pe_int (fun _ _ => rfl)) (pe_ix ix_list (pv 0) pe_int (fun _ _ => rfl)) (fun _ _ => rfl)))
        (pss_cons (ps_asg (pe_op op_add (pe_ix ix_list (pv 0) pe_int (fun _ _ => rfl)) pe_int) (pg_sub (pv 0) pe_int set_list))
        (pss_cons (ps_if (pt_cmpR op_lt (pe_callB call_abs (by rfl) T.abs (by decide +kernel) (pa_cons (pv 2) pa_nil)) (pe_op op_pow pe_int pe_int) (nomark _))
          (pss_one (ps_ret (pe_op op_mod (pe_callTy call_int1 (by rfl) T.int (by decide +kernel) (pa_cons (pe_own O_law_mix hr (by rfl) (pa_cons (pv 2) (pa_cons (pe_ix ix_list (pv 0) pe_int (fun _ _ => rfl)) pa_nil))) pa_nil)) (pv 1))))
          pss_nil)
        (pss_one (ps_asg (pe_callB call_abs (by rfl) T.abs (by decide +kernel) (pa_cons (pv 2) pa_nil)) (pg_sub (pv 0) pe_int set_list))))))
        pss_nil)
      (pss_cons (ps_if (pt_cmpR op_gt (pe_ix ix_list (pv 0) pe_int (fun _ _ => rfl)) pe_int (nomark _))
        (pss_cons (ps_set (i := 3) sc_law_take.nd rfl (Or.inl rfl) (pe_op op_mod (pe_callTy call_int1 (by rfl) T.int (by decide +kernel) (pa_cons (pe_ix ix_list (pv 0) pe_int (fun _ _ => rfl)) pa_nil)) (pv 1)))
        (pss_cons (ps_asg (pe_op op_fdiv (pe_ix ix_list (pv 0) pe_int (fun _ _ => rfl)) (pv 1)) (pg_sub (pv 0) pe_int set_list))
        (pss_one (ps_ret (pv 3)))))
        pss_nil)
      (pss_one (ps_ret (pe_op op_mod (pe_callTy call_int1 (by rfl) T.int (by decide +kernel) (pa_cons (pe_own O_law_mix hr (by rfl) (pa_cons (pe_ix ix_list (pv 0) pe_int (fun _ _ => rfl)) (pa_cons (pe_ix ix_list (pv 0) pe_int (fun _ _ => rfl)) pa_nil))) pa_nil)) (pv 1))))))))), ?_⟩
    obtain ⟨zS, c, ns, p, r, sd, t, eS, nc, ec, hp, hr0, zc⟩ := hS
    refine ⟨_, rfl, Or.inl ⟨m, rfl, _, _, rfl, ?_⟩⟩
    have hM : (if m > 1 then m else 1) = max 1 m := by split <;> omega
    rw [hM]
    generalize hMM : max 1 m = M at q
    have hM1 : 1 ≤ M := by omega
    refine ⟨_, rfl, rfl, _, rfl, ite2 (fun e => ?_) (fun e => ?_)⟩
    · exact q H 0 (Keep.refl s H) ⟨zS, c, ns, p, r, sd, t, eS, nc, ec, hp, hr0, zc⟩ (by decide) (by omega)
    have hM2 : 1 < M := by
      rcases Int.lt_or_eq_of_le hM1 with h | h
      · exact h
      · exact absurd (by rw [← h]; rfl) e
    have up : ∀ (x0 x1 x2 x3 x4 : V), upd H s (.lst [x0, x1, x2, x3, x4]) s = some (.lst [x0, x1, x2, x3, x4]) := fun _ _ _ _ _ => upd_same
    have upc : ∀ o, upd H s o c = some (.lst (ns.map V.int)) := fun o => by rw [upd_ne nc]; exact ec
    refine ⟨_, rfl, s, _, 4, _, rfl, rfl, SqL.of eS, rfl, _, _, rfl, rfl, _, rfl, s, _, 4, 4, rfl, rfl, eS, rfl, ?_⟩
    show tSeq _ _ _ _ (upd H s (.lst [.ref c, .int p, .int r, .int sd, .int (t + 1)]))
    generalize eH1 : upd H s (.lst [.ref c, .int p, .int r, .int sd, .int (t + 1)]) = H1
    have eS1 : H1 s = some (.lst [.ref c, .int p, .int r, .int sd, .int (t + 1)]) := by rw [← eH1]; exact upd_same
    have ec1 : H1 c = some (.lst (ns.map V.int)) := by rw [← eH1]; exact upc _
    have k1 : Keep s H H1 := by rw [← eH1]; exact (Keep.refl s H).put eS hp hr0
    have qm : ∀ (H' : Hp) (x : Int), Keep s H1 H' → SO S s H' → Q (.int (x % M)) H' := fun H' x kk so => q H' _ (k1.trans kk) so (Int.emod_nonneg _ (by omega)) (Int.emod_lt_of_pos _ (by omega))
    -- what stands behind the first if
    have rest : ∀ (H' : Hp) (p' r' : Int) (y2 y3 : Option V), Keep s H1 H' → H' s = some (.lst [.ref c, .int p', .int r', .int sd, .int (t + 1)]) → H' c = some (.lst (ns.map V.int)) → 0 ≤ p' → 0 ≤ r' →
        (tSeq (tIfS (tTest (tOp (rI0 fun i j => .bl (decide (j < i))) (tOp (rIxL K) (tVar 0) (tC (.int 2))) (tC (.int 0))))
          (tSeq (tAsg (tOp (rI (fun _ j => 0 < j) fun i j => .int (i % j)) (tCB (fun xs H Q => (∃ i, xs = [V.int i] ∧ Q (V.int i) H) ∨ ∃ k, xs = [V.bl k] ∧ Q (V.int (if k = true then 1 else 0)) H) (tCons (tOp (rIxL K) (tVar 0) (tC (.int 2))) tNil)) (tVar 1)) (gName 3))
            (tSeq (tAsg (tOp (rI CDiv fun i j => .int (i / j)) (tOp (rIxL K) (tVar 0) (tC (.int 2))) (tVar 1)) (gSub (tVar 0) (tC (.int 2)) rSetL)) (tRet (tVar 3)))) tNext)
          (tRet (tOp (rI (fun _ j => 0 < j) fun i j => .int (i % j)) (tCB (fun xs H Q => (∃ i, xs = [V.int i] ∧ Q (V.int i) H) ∨ ∃ k, xs = [V.bl k] ∧ Q (V.int (if k = true then 1 else 0)) H) (tCons (tCall sp_law_mix [] E0 (tCons (tOp (rIxL K) (tVar 0) (tC (.int 3))) (tCons (tOp (rIxL K) (tVar 0) (tC (.int 4))) tNil))) tNil)) (tVar 1))))
          { nx := fun _ H' => Q .non H', rt := Q } [some (.ref s), some (.int M), y2, y3] H' := by
      intro H' p' r' y2 y3 kk eS' ec' hp' hr'
      refine ⟨_, rfl, s, _, 2, _, rfl, rfl, SqL.of eS', rfl, _, _, rfl, rfl, _, rfl, ite2 (fun h0 => ?_) (fun h0 => ?_)⟩
      · have h1 : 0 < r' := of_decide_eq_true h0
        refine ⟨_, rfl, s, _, 2, _, rfl, rfl, SqL.of eS', rfl, Or.inl ⟨_, rfl, _, rfl, _, _, rfl, rfl, (show (0 : Int) < M by omega), ?_⟩⟩
        refine ⟨_, rfl, s, _, 2, _, rfl, rfl, SqL.of eS', rfl, _, rfl, _, _, rfl, rfl, ⟨by omega, by omega⟩, _, rfl, s, _, 2, 2, rfl, rfl, eS', rfl, ?_⟩
        refine ⟨_, rfl, qm _ _ (kk.put eS' hp' (Int.ediv_nonneg hr' (by omega))) ⟨zS, c, ns, p', r' / M, sd, t + 1, upd_same, nc, by rw [upd_ne nc]; exact ec', hp', ?_, zc⟩⟩
        exact Int.ediv_nonneg hr' (by omega)
      · refine ⟨_, rfl, s, _, 3, _, rfl, rfl, SqL.of eS', rfl, _, rfl, s, _, 4, _, rfl, rfl, SqL.of eS', rfl, _, _, rfl, fun x => Or.inl ⟨x, rfl, _, rfl, _, _, rfl, rfl, (show (0 : Int) < M by omega), ?_⟩⟩
        exact qm _ _ kk ⟨zS, c, ns, p', r', sd, t + 1, eS', nc, ec', hp', hr', zc⟩
    refine ⟨_, rfl, s, _, 2, _, rfl, rfl, SqL.of eS1, rfl, rfl, _, rfl, ite2 (fun h2 => ?_) (fun h2 => ?_)⟩
    · refine ⟨_, rfl, s, _, 1, _, rfl, rfl, SqL.of eS1, rfl, _, rfl, s, _, 0, _, rfl, rfl, SqL.of eS1, rfl, c, _, rfl, .inl (SqL.of ec1), _, _, rfl, rfl, _, rfl, ite2 (fun h3 => ?_) (fun h3 => ?_)⟩
      · have h4 : p < ((ns.map V.int).length : Int) := of_decide_eq_true h3
        rw [List.length_map] at h4
        obtain ⟨j, rfl⟩ : ∃ j : Nat, p = (j : Int) := ⟨p.toNat, by omega⟩
        have hj : j < ns.length := by omega
        have hx : (ns.map V.int)[j]? = some (.int ns[j]) := by
          rw [List.getElem?_map, List.getElem?_eq_getElem hj]
          rfl
        refine ⟨_, rfl, s, _, 0, _, rfl, rfl, SqL.of eS1, rfl, _, rfl, s, _, 1, _, rfl, rfl, SqL.of eS1, rfl, c, _, _, _, rfl, rfl, SqL.of ec1, atI_nat hx, ?_⟩
        refine ⟨_, rfl, s, _, 1, _, rfl, rfl, SqL.of eS1, rfl, _, _, rfl, rfl, _, rfl, s, _, 1, 1, rfl, rfl, eS1, rfl, ?_⟩
        show tSeq _ _ _ _ (upd H1 s (.lst [.ref c, .int ((j : Int) + 1), .int r, .int sd, .int (t + 1)]))
        generalize eH2 : upd H1 s (.lst [.ref c, .int ((j : Int) + 1), .int r, .int sd, .int (t + 1)]) = H2
        have eS2 : H2 s = some (.lst [.ref c, .int ((j : Int) + 1), .int r, .int sd, .int (t + 1)]) := by rw [← eH2]; exact upd_same
        have ec2 : H2 c = some (.lst (ns.map V.int)) := by rw [← eH2, upd_ne nc]; exact ec1
        have k2 : Keep s H1 H2 := by rw [← eH2]; exact (Keep.refl s H1).put eS1 (by omega) hr0
        refine ⟨_, rfl, _, rfl, _, _, rfl, rfl, ⟨by decide, by decide, by decide⟩, _, _, rfl, rfl, _, rfl, ite2 (fun h5 => ?_) (fun h5 => ?_)⟩
        · refine ⟨_, rfl, _, rfl, s, _, 4, _, rfl, rfl, SqL.of eS2, rfl, _, _, rfl, fun x => Or.inl ⟨x, rfl, _, rfl, _, _, rfl, rfl, (show (0 : Int) < M by omega), ?_⟩⟩
          exact qm _ _ k2 ⟨zS, c, ns, (j : Int) + 1, r, sd, t + 1, eS2, nc, ec2, by omega, hr0, zc⟩
        · refine ⟨_, rfl, _, rfl, _, rfl, s, _, 2, 2, rfl, rfl, eS2, rfl, ?_⟩
          exact rest _ ((j : Int) + 1) _ _ _ (k2.put eS2 (by omega) (by split <;> omega)) upd_same (by rw [upd_ne nc]; exact ec2) (by omega) (by split <;> omega)
      · exact rest H1 p r none none (Keep.refl s H1) eS1 ec1 hp hr0
    · exact rest H1 p r none none (Keep.refl s H1) eS1 ec1 hp hr0


set_option maxHeartbeats 4000000 in
theorem ok_law_pick  (F : Fun K "_law_pick" "_law_pick" s_law_pick f fd) (T : Txt w K mg)
    (O_law_take : Own P w K mg base k "_law_take" ["store", "many"] (sp_law_take)) : FnOk P w K mg base CX0 (k + 1) f fd ["store", "things"] (sp_law_pick K) := by
  refine F.ok sc_law_pick (fun vs H Q E h => ?_) (fun cdv A outer s0 H vs Q E hr h => ?_)
  · obtain ⟨S, s, x, rfl, hS, q⟩ := h
    rfl
  · obtain ⟨S, s, x, rfl, hS, q⟩ := h
    refine ⟨_, (pss_one (ps_ret (pe_ix ix_seq (pv 1) (pe_own O_law_take hr (by rfl) (pa_cons (pv 0) (pa_cons (pe_callB (CallR.or call_len_seq call_len_str) (by rfl) T.len PySem.boot_len (pa_cons (pv 1) pa_nil)) pa_nil))) (fun _ _ => rfl)))), ?_⟩
    rcases q with ⟨a, xs, rfl, na, hA, hne, hle, q⟩ | ⟨z, rfl, h0, hle, q⟩
    · refine ⟨_, rfl, _, rfl, _, rfl, Or.inl ⟨a, xs, rfl, .inl hA, S, s, _, rfl, hS, by omega, fun H' r kk so r0 r1 => ?_⟩⟩
      have hl : 0 < xs.length := List.length_pos_iff.mpr hne
      obtain ⟨j, rfl⟩ : ∃ j : Nat, r = (j : Int) := ⟨r.toNat, by omega⟩
      have hj : j < xs.length := by omega
      exact Or.inl ⟨a, xs, _, _, rfl, rfl, kk.seq na hA, atI_nat (List.getElem?_eq_getElem hj), q H' _ kk so (List.getElem_mem hj)⟩
    · refine ⟨_, rfl, _, rfl, _, rfl, Or.inr ⟨z, rfl, line_le hle, S, s, _, rfl, hS, by omega, fun H' r kk so r0 r1 => ?_⟩⟩
      obtain ⟨j, rfl⟩ : ∃ j : Nat, r = (j : Int) := ⟨r.toNat, by omega⟩
      have hj : j < z.cps.toList.length := by
        have : z.length = z.cps.toList.length := rfl
        omega
      exact Or.inr (Or.inr ⟨z, _, _, rfl, rfl, line_le hle, atI_nat (List.getElem?_eq_getElem hj), q H' _ kk so (List.getElem_mem hj)⟩)


set_option maxHeartbeats 4000000 in
theorem ok_law_number  (F : Fun K "_law_number" "_law_number" s_law_number f fd) (T : Txt w K mg)
    (O_law_take : Own P w K mg base k "_law_take" ["store", "many"] (sp_law_take))
    (O_law_pick : Own P w K mg base k "_law_pick" ["store", "things"] (sp_law_pick K)) : FnOk P w K mg base CX0 (k + 1) f fd ["store"] (sp_law_number) := by
  refine F.ok sc_law_number (fun vs H Q E h => ?_) (fun cdv A outer s0 H vs Q E hr h => ?_)
  · obtain ⟨S, s, rfl, hS, q⟩ := h
    rfl
  · obtain ⟨S, s, rfl, hS, q⟩ := h
    refine ⟨_, (pss_cons (ps_set (i := 1) sc_law_number.nd rfl (Or.inl rfl) (pe_own O_law_take hr (by rfl) (pa_cons (pv 0) (pa_cons pe_int pa_nil))))
      (pss_cons (ps_if (pt_cmpR op_eq (pv 1) pe_int (nomark _))
        (pss_one (ps_ret (pe_own O_law_pick hr (by rfl) (pa_cons (pv 0) (pa_cons (pe_lst (pa_cons pe_int (pa_cons pe_int (pa_cons (pe_un un_neg pe_int) (pa_cons pe_int (pa_cons pe_int (pa_cons pe_int (pa_cons (pe_un un_neg pe_int) pa_nil)))))))) pa_nil)))))
        pss_nil)
      (pss_cons (ps_if (pt_cmpR op_eq (pv 1) pe_int (nomark _))
        (pss_one (ps_ret (pe_own O_law_pick hr (by rfl) (pa_cons (pv 0) (pa_cons (pe_lst (pa_cons (pe_op op_sub (pe_op op_pow pe_int pe_int) pe_int) (pa_cons (pe_op op_sub pe_int (pe_op op_pow pe_int pe_int)) (pa_cons (pe_op op_pow pe_int pe_int) (pa_cons pe_int (pa_cons pe_int (pa_cons (pe_un un_neg pe_int) pa_nil))))))) pa_nil)))))
        pss_nil)
      (pss_cons (ps_if (pt_cmpR op_eq (pv 1) pe_int (nomark _))
        (pss_one (ps_ret (pe_op op_sub (pe_own O_law_take hr (by rfl) (pa_cons (pv 0) (pa_cons pe_int pa_nil))) pe_int)))
        pss_nil)
      (pss_cons (ps_set (i := 2) sc_law_number.nd rfl (Or.inl rfl) pe_int)
      (pss_cons (ps_for PassesOwn.never rfl (pi_range1 (by rfl) T.range (pa_cons (pe_op op_add pe_int (pe_own O_law_take hr (by rfl) (pa_cons (pv 0) (pa_cons pe_int pa_nil)))) pa_nil)) (pg_name (i := 3) sc_law_number.nd rfl (Or.inl rfl))
        (pss_one (ps_set (i := 2) sc_law_number.nd rfl (Or.inl rfl) (pe_op op_add (pe_op op_mul (pv 2) (pe_op op_pow pe_int pe_int)) (pe_own O_law_take hr (by rfl) (pa_cons (pv 0) (pa_cons (pe_op op_pow pe_int pe_int) pa_nil)))))))
      (pss_cons (ps_if (pt_cmpR op_eq (pv 1) pe_int (nomark _))
        (pss_one (ps_ret (pe_op op_sub pe_int (pv 2))))
        pss_nil)
      (pss_one (ps_ret (pv 2)))))))))), ?_⟩
    walk_at "go"
    intro H1 how k1 so1 h0 h1
    walk_at "go"
    refine ite2 (fun _ => ?_) (fun _ => ?_)
    · walk_at "go"
      intro p np
      refine pick_list so1 np (by simp) (by simp) (fun H2 v k2 _ so2 hv => ?_)
      obtain ⟨n, rfl⟩ : ∃ n, v = V.int n := by
        simp only [List.mem_cons, List.not_mem_nil, or_false] at hv
        rcases hv with rfl | rfl | rfl | rfl | rfl | rfl | rfl <;> exact ⟨_, rfl⟩
      exact q H2 n (k1.trans k2) so2
    walk_at "go"
    refine ite2 (fun _ => ?_) (fun _ => ?_)
    · walk_at "go"
      intro p np
      refine pick_list so1 np (by simp) (by simp) (fun H2 v k2 _ so2 hv => ?_)
      obtain ⟨n, rfl⟩ : ∃ n, v = V.int n := by
        simp only [List.mem_cons, List.not_mem_nil, or_false] at hv
        rcases hv with rfl | rfl | rfl | rfl | rfl | rfl <;> exact ⟨_, rfl⟩
      exact q H2 n (k1.trans k2) so2
    walk_at "go"
    refine ite2 (fun _ => ?_) (fun _ => ?_)
    · walk_at "go"
      intro H2 r k2 so2 _ _
      walk_at "go"
      exact q H2 _ (k1.trans k2) so2
    walk_at "go"
    intro H2 r k2 so2 r0 r1
    refine ⟨_, _, rfl, rfl, _, rfl, by omega, by omega, for_range (n := (1 + r).toNat) (fun i σ H' => Keep s H H' ∧ SO S s H' ∧ ∃ num t, σ = [some (.ref s), some (.int how), some (.int num), t]) ⟨k1.trans k2, so2, _, _, rfl⟩ ?_ ?_⟩
    · rintro i σ H3 _ ⟨k3, so3, num, t, rfl⟩
      walk_at "go"
      intro H4 r4 k4 so4 _ _
      walk_at "go"
      exact k3.trans k4
    rintro σ H3 ⟨k3, so3, num, t, rfl⟩
    walk_at "go"
    refine ite2 (fun _ => ?_) (fun _ => ?_)
    · walk_at "go"
      exact q H3 _ k3 so3
    walk_at "go"
    exact q H3 _ k3 so3


set_option maxHeartbeats 4000000 in
theorem ok_law_same {n : Nat} (F : Fun K "_law_same" "_law_same" s_law_same f fd) (T : Txt w K mg)
    (O_law_same : Own P w K mg base k "_law_same" ["given", "due"] (sp_law_same n)) : FnOk P w K mg base CX0 (k + 1) f fd ["given", "due"] (sp_law_same (n + 1)) := by
  refine F.ok sc_law_same (fun vs H Q E h => ?_) (fun cdv A outer s0 H vs Q E hr h => ?_)
  · obtain ⟨S, x, y, d, e, L, m, rfl, hS, hd, he, hD, hm, hL, q⟩ := h
    rfl
  · obtain ⟨S, x, y, d, e, L, m, rfl, hS, hd, he, hD, hm, hL, q⟩ := h
    refine ⟨_, (pss_cons (ps_if (pt_val (pe_callB call_isLT (by rfl) T.isinstance (by decide +kernel) (pa_cons (pv 1) (pa_cons (pe_tup (pa_cons (pe_bltn (v := .ty "list") (by rfl) T.list (by decide +kernel) rfl) (pa_cons (pe_bltn (v := .ty "tuple") (by rfl) T.tuple (by decide +kernel) rfl) pa_nil))) pa_nil))))
        (C8.pss_cut (ps_if (PW.pt (pw_and (pt_val (pe_callB call_isD (by rfl) T.isinstance (by decide +kernel) (pa_cons (pv 1) (pa_cons (pe_bltn (v := .ty "list") (by rfl) T.list (by decide +kernel) rfl) pa_nil)))) (pw_and1 (pt_not (pt_val (pe_callB call_isD (by rfl) T.isinstance (by decide +kernel) (pa_cons (pv 0) (pa_cons (pe_bltn (v := .ty "list") (by rfl) T.list (by decide +kernel) rfl) pa_nil))))))))
          (pss_one (ps_ret pe_bl))
          pss_nil)
        (C8.pss_cut (ps_if (PW.pt (pw_and (pt_val (pe_callB call_isD (by rfl) T.isinstance (by decide +kernel) (pa_cons (pv 1) (pa_cons (pe_bltn (v := .ty "tuple") (by rfl) T.tuple (by decide +kernel) rfl) pa_nil)))) (pw_and1 (pt_not (pt_val (pe_callB call_isD (by rfl) T.isinstance (by decide +kernel) (pa_cons (pv 0) (pa_cons (pe_bltn (v := .ty "tuple") (by rfl) T.tuple (by decide +kernel) rfl) pa_nil))))))))
          (pss_one (ps_ret pe_bl))
          pss_nil)
        (pss_cons (ps_if (pt_cmpR op_ne (pe_callB call_len_seq (by rfl) T.len PySem.boot_len (pa_cons (pv 0) pa_nil)) (pe_callB call_len_seq (by rfl) T.len PySem.boot_len (pa_cons (pv 1) pa_nil)) (nomark _))
          (pss_one (ps_ret pe_bl))
          pss_nil)
        (pss_cons (ps_for PassesOwn.never rfl (pi_range1 (by rfl) T.range (pa_cons (pe_callB call_len_seq (by rfl) T.len PySem.boot_len (pa_cons (pv 1) pa_nil)) pa_nil)) (pg_name (i := 2) sc_law_same.nd rfl (Or.inl rfl))
          (pss_one (ps_if (pt_not (pt_val (pe_own O_law_same hr (by rfl) (pa_cons (pe_ix ix_seq (pv 0) (pv 2) (fun _ _ => rfl)) (pa_cons (pe_ix ix_seq (pv 1) (pv 2) (fun _ _ => rfl)) pa_nil)))))
            (pss_one (ps_ret pe_bl))
            pss_nil)))
        (pss_one (ps_ret pe_bl))))))
        pss_nil)
      (pss_cons (ps_if (pt_cmpR op_isN (pv 1) pe_non (nomark _))
        (pss_one (ps_ret (pe_cmpR op_isN (pv 0) pe_non (nomark _))))
        pss_nil)
      (pss_cons (ps_if (pt_cmpR op_isB (pv 1) pe_bl (nomark _))
        (pss_one (ps_ret (pe_cmpR op_isB (pv 0) pe_bl (nomark _))))
        pss_nil)
      (pss_cons (ps_if (pt_cmpR op_isB (pv 1) pe_bl (nomark _))
        (pss_one (ps_ret (pe_cmpR op_isB (pv 0) pe_bl (nomark _))))
        pss_nil)
      (pss_cons (ps_if (pt_val (pe_callB call_isD (by rfl) T.isinstance (by decide +kernel) (pa_cons (pv 1) (pa_cons (pe_bltn (v := .ty "int") (by rfl) T.int (by decide +kernel) rfl) pa_nil))))
        (pss_one (ps_ret (pe_and (pe_callB call_isD (by rfl) T.isinstance (by decide +kernel) (pa_cons (pv 0) (pa_cons (pe_bltn (v := .ty "int") (by rfl) T.int (by decide +kernel) rfl) pa_nil))) (pe_and (pe_not (pe_callB call_isD (by rfl) T.isinstance (by decide +kernel) (pa_cons (pv 0) (pa_cons (pe_bltn (v := .ty "bool") (by rfl) T.bool (by decide +kernel) rfl) pa_nil)))) (pe_one (pe_cmpR op_eq (pv 0) (pv 1) (nomark _)))))))
        pss_nil)
      (pss_one (ps_ret (pe_and (pe_callB call_isD (by rfl) T.isinstance (by decide +kernel) (pa_cons (pv 0) (pa_cons (pe_bltn (v := .ty "str") (by rfl) T.str (by decide +kernel) rfl) pa_nil))) (pe_one (pe_cmpR op_eq (pv 0) (pv 1) (nomark _))))))))))), ?_⟩
    refine ⟨_, rfl, ?_⟩
    walk_at "go"
    intro tp ntp
    have sm1 : Same H (upd H tp (.tup [.ty "list", .ty "tuple"])) := same_new (Same.refl H) ntp
    refine ⟨y, tp, S, e, rfl, upd_same, he.same sm1, ?_⟩
    generalize upd H tp (.tup [.ty "list", .ty "tuple"]) = H1 at sm1
    have qB : ∀ (H' : Hp) (b : Bool), Same H1 H' → (b = true ↔ d = e) → Q (.bl b) H' := fun H' b k h => q H' b (sm1.trans k) h
    have qF : ∀ H', Same H1 H' → d ≠ e → Q (.bl false) H' := fun H' k ne => qB H' false k ⟨fun z => (nomatch z), fun z => absurd z ne⟩
    have hS1 := hS.same sm1
    have hd1 := hd.same sm1
    have he1 := he.same sm1
    clear hd he hS sm1 ntp
    refine ⟨_, rfl, ite2 (fun h => ?_) (fun h => ?_)⟩
    · refine ⟨fun σ' H' => σ' = [some x, some y, none] ∧ H' = H1 ∧ (isD "list" e = true → isD "list" d = true), ?_, ?_⟩
      · refine ⟨_, rfl, y, "list", S, e, rfl, rfl, he1, _, rfl, ite2 (fun h1 => ?_) (fun h1 => ?_)⟩
        · refine ⟨_, rfl, x, "list", S, d, rfl, rfl, hd1, _, rfl, ?_⟩
          cases h2 : isD "list" d with
          | true => exact ⟨rfl, rfl, fun _ => rfl⟩
          | false => exact qF _ (Same.refl _) (by rintro rfl; rw [h1] at h2; cases h2)
        · exact ⟨rfl, rfl, fun z => absurd z h1⟩
      rintro σ' H' ⟨rfl, rfl, hl⟩
      refine ⟨fun σ' H'' => σ' = [some x, some y, none] ∧ H'' = H' ∧ (isD "tuple" e = true → isD "tuple" d = true), ?_, ?_⟩
      · refine ⟨_, rfl, y, "tuple", S, e, rfl, rfl, he1, _, rfl, ite2 (fun h1 => ?_) (fun h1 => ?_)⟩
        · refine ⟨_, rfl, x, "tuple", S, d, rfl, rfl, hd1, _, rfl, ?_⟩
          cases h2 : isD "tuple" d with
          | true => exact ⟨rfl, rfl, fun _ => rfl⟩
          | false => exact qF _ (Same.refl _) (by rintro rfl; rw [h1] at h2; cases h2)
        · exact ⟨rfl, rfl, fun z => absurd z h1⟩
      rintro σ' H1 ⟨rfl, rfl, ht⟩
      obtain ⟨a, c, xs, ys, ds, es, m', rfl, rfl, ha, hc, hxs, hys, hel, rfl, hu, heq⟩ := rows_of (K := K) h hl ht hd1 he1 hD
      refine ⟨_, rfl, a, xs, rfl, ha _ (Same.refl _), _, rfl, c, ys, rfl, hc _ (Same.refl _), rfl, _, rfl, ?_⟩
      have lx := hxs.length
      have ly := hys.length
      by_cases hne : V.int (xs.length : Int) = V.int (ys.length : Int)
      case neg =>
        rw [decide_eq_false hne]
        exact qF _ (Same.refl _) fun z => hne (by rw [lx, ly, heq.mp z])
      rw [decide_eq_true hne]
      have hl : ds.length = es.length := by
        have := V.int.inj hne
        omega
      refine ⟨_, rfl, c, ys, rfl, hc _ (Same.refl _), _, rfl, by omega, by omega, for_range (n := (ys.length : Int).toNat) (fun i σ H' => Same H1 H' ∧ (∃ z, σ = [some (.ref a), some (.ref c), z]) ∧ ∀ j, j < i → ds[j]? = es[j]?) ⟨Same.refl _, ⟨_, rfl⟩, fun j hj => absurd hj (Nat.not_lt_zero _)⟩ ?_ ?_⟩
      · rintro i σ H2 hi ⟨sm2, ⟨z, rfl⟩, hall⟩
        have hi2 : i < ys.length := by omega
        have hi1 : i < xs.length := by omega
        obtain ⟨di, edi, hdi⟩ := hxs.get (List.getElem?_eq_getElem hi1)
        obtain ⟨ei, eei, hei⟩ := hys.get (List.getElem?_eq_getElem hi2)
        refine ⟨_, rfl, _, rfl, ix_row (ha _ sm2) (List.getElem?_eq_getElem hi1) ?_⟩
        refine ⟨_, rfl, _, rfl, ix_row (hc _ sm2) (List.getElem?_eq_getElem hi2) ?_⟩
        refine ⟨S, _, _, di, ei, L, m', rfl, hS1.same sm2, hdi.same sm2, hei.same sm2, hu ei (List.mem_of_getElem? eei), by omega, hL, fun H3 b sm3 hb => ⟨_, rfl, ?_⟩⟩
        cases b with
        | false =>
          refine qF _ (sm2.trans sm3) fun zz => ?_
          have e1 := heq.mp zz
          rw [e1, eei] at edi
          exact nomatch hb.mpr (Option.some.inj edi).symm
        | true =>
          refine ⟨sm2.trans sm3, ⟨_, rfl⟩, fun j hj => ?_⟩
          by_cases ej : j = i
          · rw [ej, edi, eei, hb.mp rfl]
          · exact hall j (by omega)
      · rintro σ H2 ⟨sm2, ⟨z, rfl⟩, hall⟩
        exact qB _ true sm2 ⟨fun _ => heq.mpr (ext_upto hl fun j hj => hall j (by omega)), fun _ => rfl⟩
    refine ⟨_, rfl, rfl, _, rfl, ?_⟩
    cases he1 with
    | @lst c ys es nc ec re => exact absurd rfl h
    | @tup c ys es nc ec re => exact absurd rfl h
    | non =>
      refine ⟨_, rfl, rfl, qB _ _ (Same.refl _) ?_⟩
      cases hd1 <;> simp
    | bl b =>
      refine ⟨_, rfl, _, rfl, _, rfl, ?_⟩
      cases b with
      | true =>
        refine ⟨_, rfl, _, rfl, qB _ _ (Same.refl _) ?_⟩
        cases hd1 <;> simp
      | false =>
        refine ⟨_, rfl, _, rfl, _, rfl, ?_⟩
        refine ⟨_, rfl, _, rfl, qB _ _ (Same.refl _) ?_⟩
        cases hd1 <;> simp
    | int i =>
      refine ⟨_, rfl, _, rfl, _, rfl, ?_⟩
      refine ⟨_, rfl, _, rfl, _, rfl, ?_⟩
      refine ⟨_, rfl, _, "int", S, _, rfl, rfl, .int i, _, rfl, ?_⟩
      refine ⟨_, rfl, _, "int", S, d, rfl, rfl, hd1, _, rfl, ?_⟩
      cases hd1 with
      | int j =>
        refine ⟨_, rfl, _, "bool", S, _, rfl, rfl, .int j, _, rfl, _, rfl, ?_⟩
        refine ⟨_, rfl, _, rfl, rfl, qB _ _ (Same.refl _) ?_⟩
        simp
      | bl b =>
        refine ⟨_, rfl, _, "bool", S, _, rfl, rfl, .bl b, _, rfl, _, rfl, ?_⟩
        exact qF _ (Same.refl _) (fun z => nomatch z)
      | _ => exact qF _ (Same.refl _) (fun z => nomatch z)
    | str z =>
      refine ⟨_, rfl, _, rfl, _, rfl, ?_⟩
      refine ⟨_, rfl, _, rfl, _, rfl, ?_⟩
      refine ⟨_, rfl, _, "int", S, _, rfl, rfl, .str z, _, rfl, ?_⟩
      refine ⟨_, rfl, _, "str", S, d, rfl, rfl, hd1, _, rfl, ?_⟩
      cases hd1 with
      | str z2 =>
        refine ⟨_, rfl, _, rfl, rfl, qB _ _ (Same.refl _) ?_⟩
        simp
      | _ => exact qF _ (Same.refl _) (fun z => nomatch z)


set_option maxHeartbeats 4000000 in
theorem ok_law_copy {n : Nat} (F : Fun K "_law_copy" "_law_copy" s_law_copy f fd) (T : Txt w K mg)
    (O_law_copy : Own P w K mg base k "_law_copy" ["value"] (sp_law_copy n)) : FnOk P w K mg base CX0 (k + 1) f fd ["value"] (sp_law_copy (n + 1)) := by
  refine F.ok sc_law_copy (fun vs H Q E h => ?_) (fun cdv A outer s0 H vs Q E hr h => ?_)
  · obtain ⟨S, x, d, L, m, rfl, hS, hd, hD, hm, hL, q⟩ := h
    rfl
  · obtain ⟨S, x, d, L, m, rfl, hS, hd, hD, hm, hL, q⟩ := h
    refine ⟨_, (pss_cons (ps_if (pt_val (pe_callB call_isD (by rfl) T.isinstance (by decide +kernel) (pa_cons (pv 0) (pa_cons (pe_bltn (v := .ty "list") (by rfl) T.list (by decide +kernel) rfl) pa_nil))))
        (pss_one (ps_ret (pe_lc (own := [("part", 1)]) (by rfl) sc_law_copy.nd (pi_list (pv 0)) (blkOk_by (own := [("part", 1)]) (N := ["value", "part"]) (sc := defScope s_law_copy) (by decide +kernel)) (fun _ _ _ _ _ => pg_name (i := 1) sc_law_copy.nd rfl (Or.inl rfl)) (fun _ _ _ _ _ => pts_nil) (fun _ _ _ _ _ => (pe_own O_law_copy hr (by rfl) (pa_cons (pv 1) pa_nil))))))
        pss_nil)
      (pss_cons (ps_if (pt_val (pe_callB call_isD (by rfl) T.isinstance (by decide +kernel) (pa_cons (pv 0) (pa_cons (pe_bltn (v := .ty "tuple") (by rfl) T.tuple (by decide +kernel) rfl) pa_nil))))
        (pss_one (ps_ret (pe_tupleOf (by rfl) T.tuple (pe_lc (own := [("part", 1)]) (by rfl) sc_law_copy.nd (pi_tup (pv 0)) (blkOk_by (own := [("part", 1)]) (N := ["value", "part"]) (sc := defScope s_law_copy) (by decide +kernel)) (fun _ _ _ _ _ => pg_name (i := 1) sc_law_copy.nd rfl (Or.inl rfl)) (fun _ _ _ _ _ => pts_nil) (fun _ _ _ _ _ => (pe_own O_law_copy hr (by rfl) (pa_cons (pv 1) pa_nil)))))))
        pss_nil)
      (pss_one (ps_ret (pv 0))))), ?_⟩
    refine ⟨_, rfl, ?_⟩
    refine ⟨x, "list", S, d, rfl, rfl, hd, ?_⟩
    refine ⟨_, rfl, ite2 (fun h => ?_) (fun _ => ?_)⟩
    · obtain ⟨ds, rfl⟩ := isD_list h
      cases hd with
      | @lst a xs _ na ea r =>
      cases hD with
      | @lst m _ hl hds =>
      refine ⟨_, rfl, a, rfl, ⟨_, SqL.of ea⟩, fun D nD => ?_⟩
      have nSD : ¬ S D := hS.free nD
      have hx : xs.length = ds.length := r.length
      refine lc_list (K := K) (a := a) (xs := xs) (fun i H' => Same H H' ∧ ∃ acc, H' D = some (.lst acc) ∧ DaAll (addA S D) H' acc (ds.take i)) ⟨same_new (Same.refl H) nD, _, upd_same, .nil⟩ (fun i H' _ hp => SqL.of (hp.1 _ _ ea)) ?_ ?_
      · rintro i x H' hi ⟨sm, acc, eD, hacc⟩
        obtain ⟨e, he, hde⟩ := r.get hi
        refine ⟨rfl, ?_⟩
        refine ⟨_, rfl, addA S D, x, e, L, m, rfl, (hS.same sm).add eD, (hde.more nD).same sm, hds e (List.mem_of_getElem? he), by omega, hL, fun H2 v sm2 hv => ?_⟩
        refine ⟨acc, sm2 _ _ eD, ?_, fun b o eb => ?_, _, upd_same, ?_⟩
        · rw [hacc.length]
          exact line_lt (by rw [List.length_take]; omega)
        · rw [upd_ne (ne_of_none eb nD)]
          exact sm2 _ _ (sm _ _ eb)
        · rw [← take_snoc he]
          exact ((hacc.same sm2).app (.one hv)).at
      · rintro H' ⟨sm, acc, eD, hacc⟩
        rw [hx, List.take_length] at hacc
        exact q H' _ sm (.lst nSD eD hacc.less)
    refine ⟨_, rfl, ?_⟩
    refine ⟨x, "tuple", S, d, rfl, rfl, hd, ?_⟩
    refine ⟨_, rfl, ite2 (fun h => ?_) (fun _ => ?_)⟩
    · obtain ⟨ds, rfl⟩ := isD_tuple h
      cases hd with
      | @tup a xs _ na ea r =>
      cases hD with
      | @tup m _ hl hds =>
      refine ⟨_, rfl, a, rfl, ⟨_, SqT.of ea⟩, fun D nD => ?_⟩
      have nSD : ¬ S D := hS.free nD
      have hx : xs.length = ds.length := r.length
      refine lc_tup (K := K) (a := a) (xs := xs) (fun i H' => Same H H' ∧ ∃ acc, H' D = some (.lst acc) ∧ DaAll (addA S D) H' acc (ds.take i)) ⟨same_new (Same.refl H) nD, _, upd_same, .nil⟩ (fun i H' _ hp => SqT.of (hp.1 _ _ ea)) ?_ ?_
      · rintro i x H' hi ⟨sm, acc, eD, hacc⟩
        obtain ⟨e, he, hde⟩ := r.get hi
        refine ⟨rfl, ?_⟩
        refine ⟨_, rfl, addA S D, x, e, L, m, rfl, (hS.same sm).add eD, (hde.more nD).same sm, hds e (List.mem_of_getElem? he), by omega, hL, fun H2 v sm2 hv => ?_⟩
        refine ⟨acc, sm2 _ _ eD, ?_, fun b o eb => ?_, _, upd_same, ?_⟩
        · rw [hacc.length]
          exact line_lt (by rw [List.length_take]; omega)
        · rw [upd_ne (ne_of_none eb nD)]
          exact sm2 _ _ (sm _ _ eb)
        · rw [← take_snoc he]
          exact ((hacc.same sm2).app (.one hv)).at
      · rintro H' ⟨sm, acc, eD, hacc⟩
        rw [hx, List.take_length] at hacc
        refine .inl ⟨D, acc, rfl, SqL.of eD, fun p np => ?_⟩
        exact q _ _ (same_new sm (sm.free np)) (.tup ((hS.same sm).free np) upd_same (hacc.less.new np))
    refine ⟨_, rfl, q H x (Same.refl H) hd⟩


set_option maxHeartbeats 4000000 in
theorem ok_law_sign  (F : Fun K "_law_sign" "_law_sign" s_law_sign f fd) (T : Txt w K mg)
    (O_law_pick : Own P w K mg base k "_law_pick" ["store", "things"] (sp_law_pick K)) : FnOk P w K mg base CX0 (k + 1) f fd ["store"] (sp_law_sign) := by
  refine F.ok sc_law_sign (fun vs H Q E h => ?_) (fun cdv A outer s0 H vs Q E hr h => ?_)
  · obtain ⟨S, s, rfl, hS, q⟩ := h
    rfl
  · obtain ⟨S, s, rfl, hS, q⟩ := h
    refine ⟨_, (pss_cons (ps_set (i := 1) sc_law_sign.nd rfl (Or.inl rfl) pe_str)
      (pss_cons (ps_set (i := 1) sc_law_sign.nd rfl (Or.inl rfl) (pe_op op_add_str (pv 1) pe_str))
      (pss_one (ps_ret (pe_own O_law_pick hr (by rfl) (pa_cons (pv 0) (pa_cons (pv 1) pa_nil))))))), ?_⟩
    refine ⟨_, rfl, _, _, rfl, rfl, by decide +kernel, ?_⟩
    refine ⟨_, rfl, _, rfl, ?_⟩
    exact pick_str hS (by decide +kernel) (by decide +kernel) fun H' c k so _ => q H' c k so


set_option maxHeartbeats 4000000 in
theorem ok_law_string  (F : Fun K "_law_string" "_law_string" s_law_string f fd) (T : Txt w K mg)
    (O_law_take : Own P w K mg base k "_law_take" ["store", "many"] (sp_law_take))
    (O_law_sign : Own P w K mg base k "_law_sign" ["store"] (sp_law_sign)) : FnOk P w K mg base CX0 (k + 1) f fd ["store"] (sp_law_string) := by
  refine F.ok sc_law_string (fun vs H Q E h => ?_) (fun cdv A outer s0 H vs Q E hr h => ?_)
  · obtain ⟨S, s, rfl, hS, q⟩ := h
    rfl
  · obtain ⟨S, s, rfl, hS, q⟩ := h
    refine ⟨_, (pss_cons (ps_if (pt_cmpR op_eq (pe_own O_law_take hr (by rfl) (pa_cons (pv 0) (pa_cons pe_int pa_nil))) pe_int (nomark _))
        (pss_one (ps_ret (pe_op op_mul_str (pe_own O_law_sign hr (by rfl) (pa_cons (pv 0) pa_nil)) pe_int)))
        pss_nil)
      (pss_cons (ps_set (i := 1) sc_law_string.nd rfl (Or.inl rfl) pe_str)
      (pss_cons (ps_for PassesOwn.never rfl (pi_range1 (by rfl) T.range (pa_cons (pe_own O_law_take hr (by rfl) (pa_cons (pv 0) (pa_cons pe_int pa_nil))) pa_nil)) (pg_name (i := 2) sc_law_string.nd rfl (Or.inl rfl))
        (pss_one (ps_set (i := 1) sc_law_string.nd rfl (Or.inl rfl) (pe_op op_add_str (pv 1) (pe_own O_law_sign hr (by rfl) (pa_cons (pv 0) pa_nil))))))
      (pss_one (ps_ret (pv 1)))))), ?_⟩
    walk_at "go"
    intro H1 r k1 so1 _ _
    refine ⟨rfl, _, rfl, ite2 (fun _ => ?_) (fun _ => ?_)⟩
    · refine ⟨_, rfl, S, s, rfl, so1, fun H2 c k2 so2 => ⟨_, 4000, rfl, rfl, by decide, by decide, (by show (1 : Int) * 4000 ≤ 16777216; decide), ?_⟩⟩
      exact q H2 _ (k1.trans k2) so2 (one_mul_len c)
    refine ⟨_, rfl, S, s, _, rfl, so1, by decide, fun H2 r2 k2 so2 r0 r1 => ?_⟩
    refine ⟨_, rfl, by omega, by omega, for_range (n := r2.toNat) (fun i σ H' => Keep s H H' ∧ SO S s H' ∧ ∃ z t, z.length = i ∧ σ = [some (.ref s), some (.str z), t]) ⟨k1.trans k2, so2, _, _, rfl, rfl⟩ ?_ ?_⟩
    · rintro i σ H3 hi ⟨k3, so3, z, t, hz, rfl⟩
      refine ⟨_, rfl, _, rfl, S, s, rfl, so3, fun H4 c k4 so4 => ⟨_, _, rfl, rfl, ?_, k3.trans k4, so4, _, _, ?_, rfl⟩⟩
      · rw [hz]
        exact line_le (by show i + 1 ≤ _; omega)
      · rw [str_app_len, hz]
        rfl
    rintro σ H3 ⟨k3, so3, z, t, hz, rfl⟩
    exact ⟨_, rfl, q H3 z k3 so3 (by omega)⟩


set_option maxHeartbeats 4000000 in
theorem ok_law_atom  (F : Fun K "_law_atom" "_law_atom" s_law_atom f fd) (T : Txt w K mg)
    (O_law_take : Own P w K mg base k "_law_take" ["store", "many"] (sp_law_take))
    (O_law_number : Own P w K mg base k "_law_number" ["store"] (sp_law_number))
    (O_law_string : Own P w K mg base k "_law_string" ["store"] (sp_law_string))
    (O_law_pick : Own P w K mg base k "_law_pick" ["store", "things"] (sp_law_pick K)) : FnOk P w K mg base CX0 (k + 1) f fd ["store"] (sp_law_atom) := by
  refine F.ok sc_law_atom (fun vs H Q E h => ?_) (fun cdv A outer s0 H vs Q E hr h => ?_)
  · obtain ⟨S, s, rfl, hS, q⟩ := h
    rfl
  · obtain ⟨S, s, rfl, hS, q⟩ := h
    refine ⟨_, (pss_cons (ps_set (i := 1) sc_law_atom.nd rfl (Or.inl rfl) (pe_own O_law_take hr (by rfl) (pa_cons (pv 0) (pa_cons pe_int pa_nil))))
      (pss_cons (ps_if (pt_cmpR op_eq (pv 1) pe_int (nomark _))
        (pss_one (ps_ret (pe_own O_law_number hr (by rfl) (pa_cons (pv 0) pa_nil))))
        pss_nil)
      (pss_cons (ps_if (pt_cmpR op_eq (pv 1) pe_int (nomark _))
        (pss_one (ps_ret (pe_own O_law_string hr (by rfl) (pa_cons (pv 0) pa_nil))))
        pss_nil)
      (pss_one (ps_ret (pe_own O_law_pick hr (by rfl) (pa_cons (pv 0) (pa_cons (pe_lst (pa_cons pe_bl (pa_cons pe_bl (pa_cons pe_non (pa_cons pe_int (pa_cons pe_int (pa_cons pe_str (pa_cons pe_str pa_nil)))))))) pa_nil)))))))), ?_⟩
    walk_at "go"
    intro H1 how k1 so1 _ _
    walk_at "go"
    refine ite2 (fun _ => ?_) (fun _ => ?_)
    · walk_at "go"
      intro H2 n k2 so2
      exact q H2 _ (.int n) (k1.trans k2) so2 (fun _ _ => .int n) (.int _ n)
    walk_at "go"
    refine ite2 (fun _ => ?_) (fun _ => ?_)
    · walk_at "go"
      intro H2 z k2 so2 hz
      exact q H2 _ (.str z) (k1.trans k2) so2 (fun _ _ => .str z) (.str _ hz)
    walk_at "go"
    intro p np
    refine pick_list so1 np (by simp) (by simp) (fun H2 v k2 _ so2 hv => ?_)
    obtain ⟨d, hd, hD⟩ : ∃ d, (∀ (S : Av) (H2 : Hp), Da S H2 v d) ∧ Dd 4000 0 d := by
      simp only [List.mem_cons, List.not_mem_nil, or_false] at hv
      rcases hv with rfl | rfl | rfl | rfl | rfl | rfl | rfl
      · exact ⟨_, fun _ _ => .bl _, .bl _ _⟩
      · exact ⟨_, fun _ _ => .bl _, .bl _ _⟩
      · exact ⟨_, fun _ _ => .non, .non _⟩
      · exact ⟨_, fun _ _ => .int _, .int _ _⟩
      · exact ⟨_, fun _ _ => .int _, .int _ _⟩
      · exact ⟨_, fun _ _ => .str _, .str _ (by decide)⟩
      · exact ⟨_, fun _ _ => .str _, .str _ (by decide)⟩
    exact q H2 v d (k1.trans k2) so2 hd hD


set_option maxHeartbeats 4000000 in
theorem ok_law_plain  (F : Fun K "_law_plain" "_law_plain" s_law_plain f fd) (T : Txt w K mg)
    (O_law_take : Own P w K mg base k "_law_take" ["store", "many"] (sp_law_take))
    (O_law_pick : Own P w K mg base k "_law_pick" ["store", "things"] (sp_law_pick K))
    (O_law_atom : Own P w K mg base k "_law_atom" ["store"] (sp_law_atom)) : FnOk P w K mg base CX0 (k + 1) f fd ["store"] (sp_law_plain) := by
  refine F.ok sc_law_plain (fun vs H Q E h => ?_) (fun cdv A outer s0 H vs Q E hr h => ?_)
  · obtain ⟨S, s, rfl, hS, q⟩ := h
    rfl
  · obtain ⟨S, s, rfl, hS, q⟩ := h
    refine ⟨_, (pss_cons (ps_if (pt_cmpR op_eq (pe_own O_law_take hr (by rfl) (pa_cons (pv 0) (pa_cons pe_int pa_nil))) pe_int (nomark _))
        (pss_one (ps_ret (pe_own O_law_pick hr (by rfl) (pa_cons (pv 0) (pa_cons (pe_lst (pa_cons (pe_lst pa_nil) (pa_cons (pe_tup pa_nil) (pa_cons (pe_lst (pa_cons (pe_lst pa_nil) pa_nil)) (pa_cons (pe_tup (pa_cons (pe_tup pa_nil) pa_nil)) (pa_cons (pe_lst (pa_cons (pe_tup pa_nil) pa_nil)) (pa_cons (pe_tup (pa_cons (pe_lst pa_nil) pa_nil)) pa_nil))))))) pa_nil)))))
        pss_nil)
      (pss_cons (ps_set (i := 1) sc_law_plain.nd rfl (Or.inl rfl) (pe_own O_law_atom hr (by rfl) (pa_cons (pv 0) pa_nil)))
      (pss_cons (ps_set (i := 2) sc_law_plain.nd rfl (Or.inl rfl) (pe_own O_law_take hr (by rfl) (pa_cons (pv 0) (pa_cons pe_int pa_nil))))
      (C8.pss_cut (ps_if (pt_cmpR op_eq (pe_own O_law_take hr (by rfl) (pa_cons (pv 0) (pa_cons pe_int pa_nil))) pe_int (nomark _))
        (pss_one (ps_set (i := 2) sc_law_plain.nd rfl (Or.inl rfl) pe_int))
        pss_nil)
      (pss_cons (ps_for PassesOwn.never rfl (pi_range1 (by rfl) T.range (pa_cons (pv 2) pa_nil)) (pg_name (i := 3) sc_law_plain.nd rfl (Or.inl rfl))
        (pss_cons (ps_set (i := 4) sc_law_plain.nd rfl (Or.inl rfl) (pe_lst (pa_cons (pv 1) pa_nil)))
        (pss_cons (ps_for PassesOwn.never rfl (pi_range1 (by rfl) T.range (pa_cons (pe_own O_law_take hr (by rfl) (pa_cons (pv 0) (pa_cons pe_int pa_nil))) pa_nil)) (pg_name (i := 5) sc_law_plain.nd rfl (Or.inl rfl))
          (pss_one (ps_expr (pe_bm PySem.F.plainAttrs_list PySem.F.slot_list_insert PySem.F.type_list_insert mt_insert (pv 4) (pa_cons (pe_own O_law_take hr (by rfl) (pa_cons (pv 0) (pa_cons (pe_op op_add (pe_callB call_len_seq (by rfl) T.len PySem.boot_len (pa_cons (pv 4) pa_nil)) pe_int) pa_nil))) (pa_cons (pe_own O_law_atom hr (by rfl) (pa_cons (pv 0) pa_nil)) pa_nil))))))
        (pss_cons (ps_set (i := 1) sc_law_plain.nd rfl (Or.inl rfl) (pv 4))
        (pss_one (ps_if (pt_cmpR op_eq (pe_own O_law_take hr (by rfl) (pa_cons (pv 0) (pa_cons pe_int pa_nil))) pe_int (nomark _))
          (pss_one (ps_set (i := 1) sc_law_plain.nd rfl (Or.inl rfl) (pe_tupleOf (by rfl) T.tuple (pv 4))))
          pss_nil))))))
      (pss_one (ps_ret (pv 1)))))))), ?_⟩
    have so0 := hS.so
    walk_at "go"
    intro H1 r k1 so1 _ _
    have S1 : SS S s H1 := hS.keep k1 so1
    refine ⟨rfl, _, rfl, ite2 (fun _ => ?_) (fun _ => ?_)⟩
    · refine ⟨_, rfl, ?_⟩
      walk_at "go"
      intro p1 n1
      obtain ⟨H2, e2, S2, k2, sm2, h2, f2, _⟩ := fresh (.lst []) S1 k1 n1
      rw [e2]
      have a1 : Da S H2 (.ref p1) (.list []) := .lst f2 h2 .nil
      walk_at "go"
      intro p2 n2
      obtain ⟨H3, e3, S3, k3, sm3, h3, f3, _⟩ := fresh (.tup []) S2 k2 n2
      rw [e3]
      have a2 : Da S H3 (.ref p2) (.tuple []) := .tup f3 h3 .nil
      walk_at "go"
      intro p3 n3
      obtain ⟨H4, e4, S4, k4, sm4, h4, f4, _⟩ := fresh (.lst []) S3 k3 n3
      rw [e4]
      have a3 : Da S H4 (.ref p3) (.list []) := .lst f4 h4 .nil
      walk_at "go"
      intro p4 n4
      obtain ⟨H5, e5, S5, k5, sm5, h5, f5, _⟩ := fresh (.lst [.ref p3]) S4 k4 n4
      rw [e5]
      have a4 : Da S H5 (.ref p4) (.list [.list []]) := .lst f5 h5 (.one (a3.same sm5))
      walk_at "go"
      intro p5 n5
      obtain ⟨H6, e6, S6, k6, sm6, h6, f6, _⟩ := fresh (.tup []) S5 k5 n5
      rw [e6]
      have a5 : Da S H6 (.ref p5) (.tuple []) := .tup f6 h6 .nil
      walk_at "go"
      intro p6 n6
      obtain ⟨H7, e7, S7, k7, sm7, h7, f7, _⟩ := fresh (.tup [.ref p5]) S6 k6 n6
      rw [e7]
      have a6 : Da S H7 (.ref p6) (.tuple [.tuple []]) := .tup f7 h7 (.one (a5.same sm7))
      walk_at "go"
      intro p7 n7
      obtain ⟨H8, e8, S8, k8, sm8, h8, f8, _⟩ := fresh (.tup []) S7 k7 n7
      rw [e8]
      have a7 : Da S H8 (.ref p7) (.tuple []) := .tup f8 h8 .nil
      walk_at "go"
      intro p8 n8
      obtain ⟨H9, e9, S9, k9, sm9, h9, f9, _⟩ := fresh (.lst [.ref p7]) S8 k8 n8
      rw [e9]
      have a8 : Da S H9 (.ref p8) (.list [.tuple []]) := .lst f9 h9 (.one (a7.same sm9))
      walk_at "go"
      intro p9 n9
      obtain ⟨H10, e10, S10, k10, sm10, h10, f10, _⟩ := fresh (.lst []) S9 k9 n9
      rw [e10]
      have a9 : Da S H10 (.ref p9) (.list []) := .lst f10 h10 .nil
      walk_at "go"
      intro p10 n10
      obtain ⟨H11, e11, S11, k11, sm11, h11, f11, _⟩ := fresh (.tup [.ref p9]) S10 k10 n10
      rw [e11]
      have a10 : Da S H11 (.ref p10) (.tuple [.list []]) := .tup f11 h11 (.one (a9.same sm11))
      walk_at "go"
      intro p np
      refine pick_list S11.so np (by simp) (by simp) (fun H' v kk _ so hv => ?_)
      have fin : ∀ {d : PyData}, Da S H11 v d → Dd 4000 60 d → Q v H' := fun h hD => q H' v _ (k11.trans kk) so (h.keep kk S11.at_) hD
      simp only [List.mem_cons, List.not_mem_nil, or_false] at hv
      have dn : Dd 4000 58 (.list []) := .lst (by decide) (fun d hd => nomatch hd)
      have tn : Dd 4000 58 (.tuple []) := .tup (by decide) (fun d hd => nomatch hd)
      have one : ∀ (d : PyData), Dd 4000 58 d → ∀ e ∈ [d], Dd 4000 59 e := fun d h e he => by
        rw [List.mem_singleton.mp he]
        exact h.lift (by decide)
      rcases hv with rfl | rfl | rfl | rfl | rfl | rfl
      · exact fin ((((((((((a1.same sm3).same sm4).same sm5).same sm6).same sm7).same sm8).same sm9).same sm10).same sm11)) (dn.lift (by decide))
      · exact fin (((((((((a2.same sm4).same sm5).same sm6).same sm7).same sm8).same sm9).same sm10).same sm11)) (tn.lift (by decide))
      · exact fin (((((((a4.same sm6).same sm7).same sm8).same sm9).same sm10).same sm11)) (.lst (by decide) (one _ dn))
      · exact fin (((((a6.same sm8).same sm9).same sm10).same sm11)) (.tup (by decide) (one _ tn))
      · exact fin (((a8.same sm10).same sm11)) (.lst (by decide) (one _ tn))
      · exact fin a10 (.tup (by decide) (one _ dn))
    walk_at "go"
    intro H2 v d k2 so2 hd hD
    have k2 := k1.trans k2
    have S2 := hS.keep k2 so2
    walk_at "go"
    intro H3 many k3 so3 m0 m1
    have k3 := k2.trans k3
    have S3 := hS.keep k3 so3
    refine ⟨fun σ H' => Keep s H H' ∧ SO S s H' ∧ ∃ (m : Int), 0 ≤ m ∧ m ≤ 59 ∧ σ = [some (.ref s), some v, some (.int m), none, none, none], ?_, ?_⟩
    · walk_at "go"
      intro H4 r4 k4 so4 _ _
      refine ⟨rfl, _, rfl, ite2 (fun _ => ?_) (fun _ => ?_)⟩
      · exact ⟨k3.trans k4, so4, 59, by decide, by decide, rfl⟩
      · exact ⟨k3.trans k4, so4, many, by omega, by omega, rfl⟩
    rintro σ H4 ⟨k4, so4, m, hm0, hm, rfl⟩
    refine ⟨_, rfl, _, rfl, by omega, by omega, for_range (n := m.toNat) (fun i σ H' => Keep s H H' ∧ SO S s H' ∧ ∃ (v : V) (d : PyData) (y3 y4 y5 : Option V), Da S H' v d ∧ Dd 4000 i d ∧ σ = [some (.ref s), some v, some (.int m), y3, y4, y5]) ⟨k4, so4, v, d, _, _, _, hd S _, hD, rfl⟩ ?_ ?_⟩
    · rintro i σ H5 hi ⟨k5, so5, v, d, y3, y4, y5, hd, hD, rfl⟩
      have S5 := hS.keep k5 so5
      walk_at "go"
      intro p np
      obtain ⟨H6, e6, S6, k6, sm6, h6, f6, nps⟩ := fresh (.lst [v]) S5 (Keep.refl s H5) np
      rw [e6]
      have so6 := S6.so
      walk_at "go"
      intro H7 r7 k7 so7 r70 r71
      refine ⟨_, rfl, by omega, by omega, for_range (n := r7.toNat) (fun j σ H' => Keep s H5 H' ∧ SO S s H' ∧ ∃ (xs : List V) (ds : List PyData) (z5 : Option V), H' p = some (.lst xs) ∧ DaAll (addA S p) H' xs ds ∧ (∀ d ∈ ds, Dd 4000 i d) ∧ xs.length = 1 + j ∧ σ = [some (.ref s), some v, some (.int m), some (.int (0 + i)), some (.ref p), z5])
        ⟨k6.trans k7, so7, [v], [d], _, k7 _ _ nps h6, .one (((hd.more np).same sm6).keep k7 (.inl S5.at_)), fun e he => by rw [List.mem_singleton.mp he]; exact hD, rfl, rfl⟩ ?_ ?_⟩
      · rintro j σ H8 hj ⟨k8, so8, xs, ds, z5, hp, hall, hDs, hlen, rfl⟩
        have S8 := S5.keep k8 so8
        refine ⟨_, rfl, .inl ⟨rfl, _, SqL.of hp⟩, _, rfl, _, rfl, p, xs, rfl, .inl (SqL.of hp), _, _, rfl, rfl, S, s, _, rfl, so8, by omega, fun H9 r9 k9 so9 r90 r91 => ?_⟩
        refine ⟨_, rfl, S, s, rfl, so9, fun H10 va da k10 so10 hda hDda => ?_⟩
        have h10 : H10 p = some (.lst xs) := k10 _ _ nps (k9 _ _ nps hp)
        refine ⟨p, xs, r9, va, rfl, rfl, h10, line_lt (by omega), r90, by omega, ?_⟩
        have hall10 : DaAll (addA S p) H10 xs ds := hall.keep (k9.trans k10) (.inl S5.at_)
        refine ⟨(k8.trans (k9.trans k10)).new np, so10.put f6, xs.take r9.toNat ++ [va] ++ xs.drop r9.toNat, ds.take r9.toNat ++ [da] ++ ds.drop r9.toNat, _, upd_same, (((hall10.take _).app (.one (hda _ _))).app (hall10.drop _)).at, fun e he => ?_, ?_, rfl⟩
        · rcases List.mem_append.mp he with he | he
          · rcases List.mem_append.mp he with he | he
            · exact hDs e (List.mem_of_mem_take he)
            · rw [List.mem_singleton.mp he]; exact hDda.lift (Nat.zero_le _)
          · exact hDs e (List.mem_of_mem_drop he)
        · rw [List.length_append, List.length_append, List.length_take, List.length_drop, List.length_singleton]
          omega
      rintro σ H8 ⟨k8, so8, xs, ds, z5, hp, hall, hDs, hlen, rfl⟩
      refine ⟨_, rfl, _, rfl, S, s, _, rfl, so8, by decide, fun H9 r9 k9 so9 r90 r91 => ?_⟩
      have h9 := k9 _ _ nps hp
      have hall9 : DaAll (addA S p) H9 xs ds := hall.keep k9 (.inl S5.at_)
      have hl : ds.length ≤ 4000 := by
        rw [← hall.length]
        omega
      refine ⟨rfl, _, rfl, ite2 (fun _ => ?_) (fun _ => ?_)⟩
      · refine ⟨_, rfl, .inl ⟨p, xs, rfl, SqL.of h9, fun t nt => ?_⟩⟩
        have S9 := S5.keep (k8.trans k9) so9
        exact ⟨(k5.trans (k8.trans k9)).new ((k5.trans (k8.trans k9)).free (S9.ne nt) nt), so9.new nt, _, .tuple ds, _, _, _, .tup (S9.free nt) upd_same (hall9.less.new nt), .tup hl hDs, rfl⟩
      · exact ⟨k5.trans (k8.trans k9), so9, _, .list ds, _, _, _, .lst f6 h9 hall9.less, .lst hl hDs, rfl⟩
    rintro σ H5 ⟨k5, so5, v, d, y3, y4, y5, hd, hD, rfl⟩
    exact ⟨_, rfl, q H5 v d k5 so5 hd (hD.lift (by omega))⟩


set_option maxHeartbeats 4000000 in
theorem ok_law_bend {n : Nat} (F : Fun K "_law_bend" "_law_bend" s_law_bend f fd) (T : Txt w K mg)
    (O_law_bend_atom : Own P w K mg base k "_law_bend_atom" ["store", "value"] (sp_law_bend_atom))
    (O_law_take : Own P w K mg base k "_law_take" ["store", "many"] (sp_law_take))
    (O_law_bend_row : Own P w K mg base k "_law_bend_row" ["store", "paper"] (sp_law_bend_row 71))
    (O_law_copy : Own P w K mg base k "_law_copy" ["value"] (sp_law_copy 71))
    (O_law_bend : Own P w K mg base k "_law_bend" ["store", "paper"] (sp_law_bend n)) : FnOk P w K mg base CX0 (k + 1) f fd ["store", "paper"] (sp_law_bend (n + 1)) := by
  refine F.ok sc_law_bend (fun vs H Q E h => ?_) (fun cdv A outer s0 H vs Q E hr h => ?_)
  · obtain ⟨S, s, x, d, L, m, rfl, hS, hd, hD, hm, hm2, hL1, hL2, q⟩ := h
    rfl
  · obtain ⟨S, s, x, d, L, m, rfl, hS, hd, hD, hm, hm2, hL1, hL2, q⟩ := h
    refine ⟨_, (pss_cons (ps_if (pt_not (pt_val (pe_callB call_isLT (by rfl) T.isinstance (by decide +kernel) (pa_cons (pv 1) (pa_cons (pe_tup (pa_cons (pe_bltn (v := .ty "list") (by rfl) T.list (by decide +kernel) rfl) (pa_cons (pe_bltn (v := .ty "tuple") (by rfl) T.tuple (by decide +kernel) rfl) pa_nil))) pa_nil)))))
        (pss_one (ps_ret (pe_own O_law_bend_atom hr (by rfl) (pa_cons (pv 0) (pa_cons (pv 1) pa_nil)))))
        pss_nil)
      (pss_cons (ps_ifCut (PW.pt (pw_or (pt_cmpR op_eq (pe_callB call_len_seq (by rfl) T.len PySem.boot_len (pa_cons (pv 1) pa_nil)) pe_int (nomark _)) (pw_or1 (pt_cmpR op_eq (pe_own O_law_take hr (by rfl) (pa_cons (pv 0) (pa_cons pe_int pa_nil))) pe_int (nomark _)))))
        (pss_one (ps_ret (pe_own O_law_bend_row hr (by rfl) (pa_cons (pv 0) (pa_cons (pv 1) pa_nil)))))
        pss_nil)
      (pss_cons (ps_setLc (i := 2) (own := [("part", 4)]) (by rfl) sc_law_bend.nd rfl rfl (sw_true rfl rfl rfl (by decide +kernel)) (pi_row (pv 1)) (blkOk_by (own := [("part", 4)]) (N := ["store", "paper", "parts", "at", "part"]) (sc := defScope s_law_bend) (by decide +kernel)) (fun _ _ _ _ _ => pg_name (i := 4) sc_law_bend.nd rfl (Or.inl rfl)) (fun _ _ _ _ _ => pts_nil) (fun _ _ _ _ _ => (pe_own O_law_copy hr (by rfl) (pa_cons (pv 4) pa_nil))))
      (pss_cons (ps_set (i := 3) sc_law_bend.nd rfl (Or.inl rfl) (pe_own O_law_take hr (by rfl) (pa_cons (pv 0) (pa_cons (pe_callB call_len_seq (by rfl) T.len PySem.boot_len (pa_cons (pv 2) pa_nil)) pa_nil))))
      (pss_cons (ps_asg (pe_own O_law_bend hr (by rfl) (pa_cons (pv 0) (pa_cons (pe_ix ix_list (pv 2) (pv 3) (fun _ _ => rfl)) pa_nil))) (pg_sub (pv 2) (pv 3) set_list))
      (pss_cons (ps_if (pt_val (pe_callB call_isD (by rfl) T.isinstance (by decide +kernel) (pa_cons (pv 1) (pa_cons (pe_bltn (v := .ty "tuple") (by rfl) T.tuple (by decide +kernel) rfl) pa_nil))))
        (pss_one (ps_ret (pe_tupleOf (by rfl) T.tuple (pv 2))))
        pss_nil)
      (pss_one (ps_ret (pv 2))))))))), ?_⟩
    have so0 := hS.so
    refine ⟨_, rfl, ?_⟩
    walk_at "go"
    intro tp ntp
    obtain ⟨H1, e1, S1, k1, sm1, h1, f1, _⟩ := fresh (.tup [.ty "list", .ty "tuple"]) hS (Keep.refl s H) ntp
    rw [e1]
    have hd1 := hd.same sm1
    refine ⟨x, tp, S, d, rfl, h1, hd1, _, rfl, ?_⟩
    cases hk : (isD "list" d || isD "tuple" d) with
    | false =>
      have hat : (∀ (S : Av) (H2 : Hp), Da S H2 x d) ∧ Dd L 0 d := by
        cases hd1 with
        | lst a b c => exact absurd hk (by simp only [isD, tyN]; decide)
        | tup a b c => exact absurd hk (by simp only [isD, tyN]; decide)
        | non => exact ⟨fun _ _ => .non, .non _⟩
        | bl b => exact ⟨fun _ _ => .bl b, .bl _ _⟩
        | int i => exact ⟨fun _ _ => .int i, .int _ _⟩
        | str z => cases hD with
          | str _ hz => exact ⟨fun _ _ => .str z, .str _ hz⟩
      refine ⟨_, rfl, _, rfl, S, s, x, d, L, rfl, S1, hat.1, hat.2, hL1, hL2, fun H' v e k so h hD' => ?_⟩
      exact q H' v e (k1.trans k) so h (hD'.mono (by omega) (by omega))
    | true =>
    obtain ⟨a, xs, ds, m', rfl, na, hr, hall, hdl, rfl, hu, hkind⟩ := row_of (K := K) hk hd1 hD
    have nas : a ≠ s := fun z => na (z ▸ hS.at_)
    have lx : xs.length = ds.length := hall.length
    refine ⟨fun H' => Keep s H1 H' ∧ SO S s H', fun H' => Keep s H1 H' ∧ SO S s H' ∧ 0 < xs.length, ?_, ?_, ?_⟩
    · refine ⟨_, rfl, a, xs, rfl, hr, rfl, _, rfl, ite2 (fun _ => ?_) (fun h => ?_)⟩
      · exact ⟨Keep.refl _ _, S1.so⟩
      · have h0 : 0 < xs.length := by
          refine Nat.pos_of_ne_zero fun z => h ?_
          rw [z]; rfl
        refine ⟨_, rfl, S, s, _, rfl, S1.so, by decide, fun H2 r k2 so2 _ _ => ⟨rfl, _, rfl, ite2 (fun _ => ?_) (fun _ => ?_)⟩⟩
        · exact ⟨k2, so2⟩
        · exact ⟨k2, so2, h0⟩
    · rintro H2 ⟨k2, so2⟩
      refine ⟨_, rfl, _, rfl, S, s, _, d, L, m' + 1, rfl, S1.keep k2 so2, hd1.keep k2 hS.at_, hk, hD, by omega, hL1, hL2, fun H' v e k so h hD' => ?_⟩
      exact q H' v e (k1.trans (k2.trans k)) so h hD'
    rintro H2 ⟨k2, so2, h0⟩
    have S2 := S1.keep k2 so2
    have hd2 := hd1.keep k2 hS.at_
    have hall2 := hall.keep k2 hS.at_
    have hr2 : Row K H2 a xs := k2.row (S := S) nas hr
    clear hr hall hd1 e1
    dsimp only [tNext, tSeq, tAsg]
    refine lc_row (i := 1) rfl hr2 (fun D j H' => Same H2 H' ∧ ∃ acc, H' D = some (.lst acc) ∧ DaAll (addA S D) H' acc (ds.take j)) (fun D j H' _ _ p => p.1) (fun D nD => ⟨same_new (Same.refl H2) nD, _, upd_same, .nil⟩) ?_ ?_
    · rintro D j y H' nD hj ⟨sm, acc, eD, hacc⟩
      obtain ⟨e, he, hde⟩ := hall2.get hj
      refine ⟨rfl, ?_⟩
      refine ⟨_, rfl, addA S D, y, e, L, m', rfl, (S2.al.same sm).add eD, (hde.more nD).same sm, hu e (List.mem_of_getElem? he), by omega, by omega, fun H2 v sm2 hv => ?_⟩
      refine ⟨acc, sm2 _ _ eD, ?_, fun b o eb => ?_, _, upd_same, ?_⟩
      · rw [hacc.length]
        exact line_lt (by rw [List.length_take]; omega)
      · rw [upd_ne (ne_of_none eb nD)]
        exact sm2 _ _ (sm _ _ eb)
      · rw [← take_snoc he]
        exact ((hacc.same sm2).app (.one hv)).at
    rintro D H3 nD ⟨sm3, acc, eD, hacc⟩
    have nSD : ¬ S D := S2.free nD
    have nDs : D ≠ s := S2.ne nD
    rw [lx, List.take_length] at hacc
    have la : acc.length = ds.length := hacc.length
    have k3 : Keep s H2 H3 := Keep.of sm3
    have so3 := so2.same sm3
    refine ⟨_, rfl, _, rfl, D, acc, rfl, .inl (SqL.of eD), S, s, _, rfl, so3, by omega, fun H4 at_ k4 so4 at0 at1 => ?_⟩
    have eD4 := k4 _ _ nDs eD
    have hacc4 : DaAll (addA S D) H4 acc ds := hacc.keep k4 (.inl hS.at_)
    have k24 : Keep s H2 H4 := k3.trans k4
    have S4 := S2.keep k24 so4
    obtain ⟨j, rfl⟩ : ∃ j : Nat, at_ = (j : Int) := ⟨at_.toNat, by omega⟩
    have hj : j < acc.length := by omega
    obtain ⟨dj, edj, hdj⟩ := hacc4.get (List.getElem?_eq_getElem hj)
    refine ⟨_, rfl, _, rfl, _, rfl, D, acc, _, acc[j], rfl, rfl, SqL.of eD4, atI_nat (List.getElem?_eq_getElem hj), ?_⟩
    refine ⟨addA S D, s, acc[j], dj, L, m', rfl, S4.add eD4, hdj, hu dj (List.mem_of_getElem? edj), by omega, by omega, hL1, hL2, fun H5 v e k5 so5 hv hDv => ?_⟩
    have eD5 := k5 _ _ nDs eD4
    have hacc5 := hacc4.keep k5 (.inl hS.at_)
    refine ⟨_, rfl, _, rfl, D, acc, _, j, rfl, rfl, eD5, ixN_some hj, ?_⟩
    have k25 : Keep s H2 (upd H5 D (.lst (acc.set j v))) := (k24.trans k5).new nD
    have so5' : SO S s (upd H5 D (.lst (acc.set j v))) := k25.so S so2
    have e6 : upd H5 D (.lst (acc.set j v)) D = some (.lst (acc.set j v)) := upd_same
    have h6 : DaAll (addA S D) (upd H5 D (.lst (acc.set j v))) (acc.set j v) (ds.set j e) := (hacc5.set hv j).at
    dsimp only
    generalize upd H5 D (.lst (acc.set j v)) = H6 at k25 so5' e6 h6 ⊢
    have hl6 : (ds.set j e).length ≤ L + 1 := by rw [List.length_set]; omega
    have hu6 : ∀ u ∈ ds.set j e, Dd (L + 1) (m' + 1) u := fun u hu' => by
      rcases List.mem_or_eq_of_mem_set hu' with h | h
      · exact (hu u h).mono (by omega) (by omega)
      · rw [h]; exact hDv
    have k6 : Keep s H H6 := k1.trans (k2.trans k25)
    refine ⟨_, rfl, _, "tuple", S, d, rfl, rfl, hd2.keep k25 hS.at_, _, rfl, ite2 (fun _ => ?_) (fun _ => ?_)⟩
    · refine ⟨_, rfl, .inl ⟨D, _, rfl, SqL.of e6, fun t nt => ?_⟩⟩
      exact q _ _ _ (k6.new (k6.free (so5'.ne nt) nt)) (so5'.new nt) (.tup ((S2.keep k25 so5').free nt) upd_same (h6.less.new nt)) (.tup hl6 hu6)
    · exact ⟨_, rfl, q _ _ _ k6 so5' (.lst nSD e6 h6.less) (.lst hl6 hu6)⟩


set_option maxHeartbeats 4000000 in
theorem ok_law_bend_row {n : Nat} (F : Fun K "_law_bend_row" "_law_bend_row" s_law_bend_row f fd) (T : Txt w K mg)
    (O_law_copy : Own P w K mg base k "_law_copy" ["value"] (sp_law_copy n))
    (O_law_take : Own P w K mg base k "_law_take" ["store", "many"] (sp_law_take))
    (O_law_pick : Own P w K mg base k "_law_pick" ["store", "things"] (sp_law_pick K)) : FnOk P w K mg base CX0 (k + 1) f fd ["store", "paper"] (sp_law_bend_row n) := by
  refine F.ok sc_law_bend_row (fun vs H Q E h => ?_) (fun cdv A outer s0 H vs Q E hr h => ?_)
  · obtain ⟨S, s, x, d, L, m, rfl, hS, hd, hk, hD, hm, hL1, hL2, q⟩ := h
    rfl
  · obtain ⟨S, s, x, d, L, m, rfl, hS, hd, hk, hD, hm, hL1, hL2, q⟩ := h
    refine ⟨_, (pss_cons (ps_setLc (i := 2) (own := [("part", 6)]) (by rfl) sc_law_bend_row.nd rfl rfl (sw_true rfl rfl rfl (by decide +kernel)) (pi_row (pv 1)) (blkOk_by (own := [("part", 6)]) (N := ["store", "paper", "parts", "how", "at", "near", "part"]) (sc := defScope s_law_bend_row) (by decide +kernel)) (fun _ _ _ _ _ => pg_name (i := 6) sc_law_bend_row.nd rfl (Or.inl rfl)) (fun _ _ _ _ _ => pts_nil) (fun _ _ _ _ _ => (pe_own O_law_copy hr (by rfl) (pa_cons (pv 6) pa_nil))))
      (pss_cons (ps_set (i := 3) sc_law_bend_row.nd rfl (Or.inl rfl) (pe_own O_law_take hr (by rfl) (pa_cons (pv 0) (pa_cons pe_int pa_nil))))
      (pss_cons (ps_set (i := 4) sc_law_bend_row.nd rfl (Or.inl rfl) (pe_own O_law_take hr (by rfl) (pa_cons (pv 0) (pa_cons (pe_callB call_len_seq (by rfl) T.len PySem.boot_len (pa_cons (pv 2) pa_nil)) pa_nil))))
      (pss_cons (ps_if (pt_cmpR op_eq (pv 3) pe_int (nomark _))
        (pss_cons (ps_if (pt_val (pe_callB call_isD (by rfl) T.isinstance (by decide +kernel) (pa_cons (pv 1) (pa_cons (pe_bltn (v := .ty "tuple") (by rfl) T.tuple (by decide +kernel) rfl) pa_nil))))
          (pss_one (ps_ret (pv 2)))
          pss_nil)
        (pss_one (ps_ret (pe_tupleOf (by rfl) T.tuple (pv 2)))))
        pss_nil)
      (pss_cons (ps_if (pt_cmpR op_eq (pv 3) pe_int (nomark _))
        (pss_one (ps_ret (pe_own O_law_pick hr (by rfl) (pa_cons (pv 0) (pa_cons (pe_lst (pa_cons pe_non (pa_cons pe_int (pa_cons pe_str (pa_cons pe_bl (pa_cons pe_bl pa_nil)))))) pa_nil)))))
        pss_nil)
      (C8.pss_cut (ps_ifCut (PW.pt (pw_and (pt_cmpR op_eq (pv 3) pe_int (nomark _)) (pw_and1 (pt_cmpR op_gt (pe_callB call_len_seq (by rfl) T.len PySem.boot_len (pa_cons (pv 2) pa_nil)) pe_int (nomark _)))))
        (pss_one (ps_expr (pe_bm PySem.F.plainAttrs_list PySem.F.slot_list_pop PySem.F.type_list_pop mt_popAt (pv 2) (pa_cons (pv 4) pa_nil))))
        (pss_one (ps_ifCut (PW.pt (pw_and (pt_cmpR op_eq (pv 3) pe_int (nomark _)) (pw_and1 (pt_cmpR op_gt (pe_callB call_len_seq (by rfl) T.len PySem.boot_len (pa_cons (pv 2) pa_nil)) pe_int (nomark _)))))
          (pss_one (ps_expr (pe_bm PySem.F.plainAttrs_list PySem.F.slot_list_insert PySem.F.type_list_insert mt_insert (pv 2) (pa_cons (pv 4) (pa_cons (pe_own O_law_copy hr (by rfl) (pa_cons (pe_ix ix_list (pv 2) (pv 4) (fun _ _ => rfl)) pa_nil)) pa_nil)))))
          (pss_one (ps_ifCut (PW.pt (pw_and (pt_cmpR op_eq (pv 3) pe_int (nomark _)) (pw_and1 (pt_cmpR op_gt (pe_callB call_len_seq (by rfl) T.len PySem.boot_len (pa_cons (pv 2) pa_nil)) pe_int (nomark _)))))
            (pss_cons (ps_set (i := 5) sc_law_bend_row.nd rfl (Or.inl rfl) (pe_op op_mod (pe_callTy call_int1 (by rfl) T.int (by decide +kernel) (pa_cons (pe_op op_add (pv 4) pe_int) pa_nil)) (pe_callB call_len_seq (by rfl) T.len PySem.boot_len (pa_cons (pv 2) pa_nil))))
            (pss_cons (ps_asg (pe_own O_law_copy hr (by rfl) (pa_cons (pe_ix ix_seq (pv 1) (pv 5) (fun _ _ => rfl)) pa_nil)) (pg_sub (pv 2) (pv 4) set_list))
            (pss_one (ps_asg (pe_own O_law_copy hr (by rfl) (pa_cons (pe_ix ix_seq (pv 1) (pv 4) (fun _ _ => rfl)) pa_nil)) (pg_sub (pv 2) (pv 5) set_list)))))
            (pss_one (ps_expr (pe_bm PySem.F.plainAttrs_list PySem.F.slot_list_insert PySem.F.type_list_insert mt_insert (pv 2) (pa_cons (pv 4) (pa_cons (pe_own O_law_pick hr (by rfl) (pa_cons (pv 0) (pa_cons (pe_lst (pa_cons pe_non (pa_cons pe_int (pa_cons pe_str (pa_cons (pe_tup (pa_cons pe_int (pa_cons pe_int pa_nil))) (pa_cons (pe_lst pa_nil) (pa_cons (pe_tup (pa_cons pe_str (pa_cons pe_str pa_nil))) pa_nil))))))) pa_nil))) pa_nil))))))))))
      (pss_cons (ps_if (pt_val (pe_callB call_isD (by rfl) T.isinstance (by decide +kernel) (pa_cons (pv 1) (pa_cons (pe_bltn (v := .ty "tuple") (by rfl) T.tuple (by decide +kernel) rfl) pa_nil))))
        (pss_one (ps_ret (pe_tupleOf (by rfl) T.tuple (pv 2))))
        pss_nil)
      (pss_one (ps_ret (pv 2)))))))))), ?_⟩
    obtain ⟨a, xs, ds, m', rfl, na, hr, hall, hdl, rfl, hu, hkind⟩ := row_of (K := K) hk hd hD
    have so0 := hS.so
    have nas : a ≠ s := fun z => na (z ▸ hS.at_)
    dsimp only [tSeq, tAsg]
    refine lc_row (i := 1) rfl hr (fun D j H' => Same H H' ∧ ∃ acc, H' D = some (.lst acc) ∧ DaAll (addA S D) H' acc (ds.take j)) (fun D j H' _ _ p => p.1) (fun D nD => ⟨same_new (Same.refl H) nD, _, upd_same, .nil⟩) ?_ ?_
    · rintro D j y H' nD hj ⟨sm, acc, eD, hacc⟩
      obtain ⟨e, he, hde⟩ := hall.get hj
      refine ⟨rfl, ?_⟩
      refine ⟨_, rfl, addA S D, y, e, L, m', rfl, (hS.al.same sm).add eD, (hde.more nD).same sm, hu e (List.mem_of_getElem? he), by omega, by omega, fun H2 v sm2 hv => ?_⟩
      refine ⟨acc, sm2 _ _ eD, ?_, fun b o eb => ?_, _, upd_same, ?_⟩
      · rw [hacc.length]
        exact line_lt (by rw [List.length_take]; omega)
      · rw [upd_ne (ne_of_none eb nD)]
        exact sm2 _ _ (sm _ _ eb)
      · rw [← take_snoc he]
        exact ((hacc.same sm2).app (.one hv)).at
    rintro D H1 nD ⟨sm1, acc, eD, hacc⟩
    have nSD : ¬ S D := hS.free nD
    have nDs : D ≠ s := hS.ne nD
    rw [show xs.length = ds.length from hall.length, List.take_length] at hacc
    have k1 : Keep s H H1 := Keep.of sm1
    have so1 := so0.same sm1
    -- how, at
    refine ⟨_, rfl, S, s, _, rfl, so1, by decide, fun H2 how k2 so2 _ _ => ?_⟩
    have eD2 := k2 _ _ nDs eD
    refine ⟨_, rfl, _, rfl, D, acc, rfl, .inl (SqL.of eD2), S, s, _, rfl, so2, ?_, fun H3 at_ k3 so3 at0 at1 => ?_⟩
    · rw [hacc.length]; omega
    have eD3 := k3 _ _ nDs eD2
    have hacc3 : DaAll (addA S D) H3 acc ds := hacc.keep (k2.trans k3) (.inl hS.at_)
    have k3' : Keep s H H3 := k1.trans (k2.trans k3)
    have S3 := hS.keep k3' so3
    have hd3 := hd.keep k3' hS.at_
    have la : acc.length = ds.length := hacc.length
    -- the end: parts, or a tuple of it
    have fin1 : ∀ (H' : Hp) (acc : List V) (es : List PyData), Keep s H H' → SO S s H' → H' D = some (.lst acc) → DaAll (addA S D) H' acc es → es.length ≤ L + 1 → (∀ u ∈ es, Dd (L + 1) (m' + 1) u) → Q (.ref D) H' :=
      fun H' acc es k so e h hl hu => q H' _ (.list es) k so (.lst nSD e h.less) (.lst hl hu)
    have fin2 : ∀ (H' : Hp) (acc : List V) (es : List PyData) (t : Addr), Keep s H H' → SO S s H' → H' D = some (.lst acc) → DaAll (addA S D) H' acc es → es.length ≤ L + 1 → (∀ u ∈ es, Dd (L + 1) (m' + 1) u) → H' t = none → Q (.ref t) (upd H' t (.tup acc)) :=
      fun H' acc es t k so e h hl hu nt => q _ _ (.tuple es) (k.new (k.free (so.ne nt) nt)) (so.new nt) (.tup ((hS.keep k so).free nt) upd_same (h.less.new nt)) (.tup hl hu)
    have hus : ∀ u ∈ ds, Dd (L + 1) (m' + 1) u := fun u hu' => (hu u hu').mono (by omega) (by omega)
    refine ⟨_, rfl, rfl, _, rfl, ite2 (fun _ => ?_) (fun _ => ?_)⟩
    · refine ⟨_, rfl, _, "tuple", S, d, rfl, rfl, hd3, _, rfl, ite2 (fun _ => ?_) (fun _ => ?_)⟩
      · exact ⟨_, rfl, fin1 H3 acc ds k3' so3 eD3 hacc3 (by omega) hus⟩
      · exact ⟨_, rfl, .inl ⟨D, acc, rfl, SqL.of eD3, fun t nt => fin2 H3 acc ds t k3' so3 eD3 hacc3 (by omega) hus nt⟩⟩
    refine ⟨_, rfl, rfl, _, rfl, ite2 (fun _ => ?_) (fun _ => ?_)⟩
    · walk_at "go"
      intro p np
      refine pick_data (L := L + 1) (n := m' + 2) so3 np (by simp) (by simp) (fun v hv => ?_) (fun H' v d k so h hd => q H' v d (k3'.trans k) so h hd)
      simp only [List.mem_cons, List.not_mem_nil, or_false] at hv
      rcases hv with rfl | rfl | rfl | rfl | rfl
      · exact ⟨_, .non, .non _⟩
      · exact ⟨_, .int _, .int _ _⟩
      · exact ⟨_, .str _, .str _ (by show 0 ≤ L + 1; omega)⟩
      · exact ⟨_, .bl _, .bl _ _⟩
      · exact ⟨_, .bl _, .bl _ _⟩
    -- the row changed
    have hne := fun (z : 0 < acc.length) => at1
    refine ⟨fun σ' H' => Keep s H H' ∧ SO S s H' ∧ (∃ (ac : List V) (es : List PyData), H' D = some (.lst ac) ∧ DaAll (addA S D) H' ac es ∧ es.length ≤ L + 1 ∧ ∀ u ∈ es, Dd (L + 1) (m' + 1) u) ∧ ∃ z5 z6, σ' = [some (.ref s), some (.ref a), some (.ref D), some (.int how), some (.int at_), z5, z6], ?_, ?_⟩
    · obtain ⟨j, hj⟩ : ∃ j : Nat, at_ = (j : Int) := ⟨at_.toNat, by omega⟩
      subst hj
      -- pop
      refine ⟨fun H' => H' = H3 ∧ 0 < acc.length, fun H' => H' = H3, ?_, ?_, ?_⟩
      · refine ⟨_, rfl, rfl, _, rfl, ite2 (fun _ => ?_) (fun _ => ?_)⟩
        · refine ⟨_, rfl, D, acc, rfl, .inl (SqL.of eD3), _, _, rfl, rfl, _, rfl, ite2 (fun h => ?_) (fun _ => rfl)⟩
          exact ⟨rfl, by have := of_decide_eq_true h; omega⟩
        · rfl
      · rintro H' ⟨rfl, h0⟩
        have hj : j < acc.length := by omega
        refine ⟨_, rfl, .inl ⟨rfl, _, SqL.of eD3⟩, _, rfl, D, acc, _, j, acc[j], rfl, rfl, eD3, by omega, by omega, ix_some hj, List.getElem?_eq_getElem hj, ?_⟩
        refine ⟨k3'.new nD, so3.put nSD, ⟨_, ds.eraseIdx j, upd_same, (hacc3.erase j).at, ?_, fun u hu' => hus u (List.mem_of_mem_eraseIdx hu')⟩, _, _, rfl⟩
        have := List.length_eraseIdx_le ds j
        omega
      rintro H' rfl
      refine ⟨fun H'' => H'' = H' ∧ 0 < acc.length, fun H'' => H'' = H', ?_, ?_, ?_⟩
      · refine ⟨_, rfl, rfl, _, rfl, ite2 (fun _ => ?_) (fun _ => ?_)⟩
        · refine ⟨_, rfl, D, acc, rfl, .inl (SqL.of eD3), _, _, rfl, rfl, _, rfl, ite2 (fun h => ?_) (fun _ => rfl)⟩
          exact ⟨rfl, by have := of_decide_eq_true h; omega⟩
        · rfl
      · rintro H3 ⟨rfl, h0⟩
        have hj : j < acc.length := by omega
        obtain ⟨dj, edj, hdj⟩ := hacc3.get (List.getElem?_eq_getElem hj)
        refine ⟨_, rfl, .inl ⟨rfl, _, SqL.of eD3⟩, _, rfl, _, rfl, _, rfl, D, acc, _, acc[j], rfl, rfl, SqL.of eD3, atI_nat (List.getElem?_eq_getElem hj), ?_⟩
        refine ⟨addA S D, acc[j], dj, L, m', rfl, S3.al.add eD3, hdj, hu dj (List.mem_of_getElem? edj), by omega, by omega, fun H4 v sm4 hv => ?_⟩
        refine ⟨D, acc, _, v, rfl, rfl, sm4 _ _ eD3, line_lt (by omega), by omega, by omega, ?_⟩
        rw [Int.toNat_natCast]
        have h4 := hacc3.same sm4
        refine ⟨(k3'.trans (Keep.of sm4)).new nD, (so3.same sm4).put nSD, ⟨_, ds.take j ++ [dj] ++ ds.drop j, upd_same, (((h4.take _).app (.one hv)).app (h4.drop _)).at, ?_, fun u hu' => ?_⟩, _, _, rfl⟩
        · rw [List.length_append, List.length_append, List.length_take, List.length_drop, List.length_singleton]
          omega
        · rcases List.mem_append.mp hu' with h | h
          · rcases List.mem_append.mp h with h | h
            · exact hus u (List.mem_of_mem_take h)
            · rw [List.mem_singleton.mp h]; exact hus dj (List.mem_of_getElem? edj)
          · exact hus u (List.mem_of_mem_drop h)
      rintro H3 rfl
      refine ⟨fun H'' => H'' = H3 ∧ 1 < acc.length, fun H'' => H'' = H3, ?_, ?_, ?_⟩
      · refine ⟨_, rfl, rfl, _, rfl, ite2 (fun _ => ?_) (fun _ => ?_)⟩
        · refine ⟨_, rfl, D, acc, rfl, .inl (SqL.of eD3), _, _, rfl, rfl, _, rfl, ite2 (fun h => ?_) (fun _ => rfl)⟩
          exact ⟨rfl, by have := of_decide_eq_true h; omega⟩
        · rfl
      · rintro H3 ⟨rfl, h0⟩
        have hj : j < acc.length := by omega
        have lx : xs.length = ds.length := hall.length
        obtain ⟨r, hr1, hr2⟩ : ∃ r : Nat, ((j : Int) + 1) % (acc.length : Int) = (r : Int) ∧ r < acc.length := by
          have h1 : 0 ≤ ((j : Int) + 1) % (acc.length : Int) := Int.emod_nonneg _ (by omega)
          have h2 : ((j : Int) + 1) % (acc.length : Int) < acc.length := Int.emod_lt_of_pos _ (by omega)
          exact ⟨(((j : Int) + 1) % (acc.length : Int)).toNat, by omega, by omega⟩
        refine ⟨_, rfl, _, _, rfl, rfl, .inl ⟨_, rfl, _, rfl, D, acc, rfl, .inl (SqL.of eD3), _, _, rfl, rfl, (show (0 : Int) < (acc.length : Int) by omega), ?_⟩⟩
        dsimp only
        rw [hr1]
        have hra : Row K H3 a xs := k3'.row (S := S) nas hr
        have hxs3 : DaAll (addA S D) H3 xs ds := (hall.more nD).keep k3' (.inl hS.at_)
        obtain ⟨dr, edr, hdr⟩ := hxs3.get (List.getElem?_eq_getElem (show r < xs.length by omega))
        obtain ⟨dj, edj, hdj⟩ := hxs3.get (List.getElem?_eq_getElem (show j < xs.length by omega))
        refine ⟨_, rfl, _, rfl, hra.ix (List.getElem?_eq_getElem (show r < xs.length by omega)) ?_⟩
        refine ⟨addA S D, _, dr, L, m', rfl, S3.al.add eD3, hdr, hu dr (List.mem_of_getElem? edr), by omega, by omega, fun H4 v sm4 hv => ?_⟩
        refine ⟨_, rfl, _, rfl, D, acc, _, j, rfl, rfl, sm4 _ _ eD3, ixN_some hj, ?_⟩
        have h4 : DaAll (addA S D) (upd H4 D (.lst (acc.set j v))) (acc.set j v) (ds.set j dr) := ((hacc3.same sm4).set hv j).at
        have k4 : Keep s H (upd H4 D (.lst (acc.set j v))) := (k3'.trans (Keep.of sm4)).new nD
        have so4 : SO S s (upd H4 D (.lst (acc.set j v))) := (so3.same sm4).put nSD
        have e4 : upd H4 D (.lst (acc.set j v)) D = some (.lst (acc.set j v)) := upd_same
        have hdj4 : Da (addA S D) (upd H4 D (.lst (acc.set j v))) xs[j] dj := (hdj.same sm4).at
        have hra4 : Row K (upd H4 D (.lst (acc.set j v))) a xs := k4.row (S := S) nas hr
        dsimp only
        generalize upd H4 D (.lst (acc.set j v)) = H5 at h4 k4 so4 e4 hdj4 hra4 ⊢
        refine ⟨_, rfl, _, rfl, hra4.ix (List.getElem?_eq_getElem (show j < xs.length by omega)) ?_⟩
        refine ⟨addA S D, _, dj, L, m', rfl, (hS.keep k4 so4).al.add e4, hdj4, hu dj (List.mem_of_getElem? edj), by omega, by omega, fun H6 w sm6 hw => ?_⟩
        refine ⟨_, rfl, _, rfl, D, acc.set j v, _, r, rfl, rfl, sm6 _ _ e4, ixN_some (by rw [List.length_set]; exact hr2), ?_⟩
        refine ⟨(k4.trans (Keep.of sm6)).new nD, (so4.same sm6).put nSD, ⟨_, (ds.set j dr).set r dj, upd_same, ((h4.same sm6).set hw r).at, ?_, fun u hu' => ?_⟩, _, _, rfl⟩
        · rw [List.length_set, List.length_set]; omega
        · rcases List.mem_or_eq_of_mem_set hu' with h | h
          · rcases List.mem_or_eq_of_mem_set h with h | h
            · exact hus u h
            · rw [h]; exact hus dr (List.mem_of_getElem? edr)
          · rw [h]; exact hus dj (List.mem_of_getElem? edj)
      · rintro H3 rfl
        refine ⟨_, rfl, .inl ⟨rfl, _, SqL.of eD3⟩, _, rfl, _, rfl, ?_⟩
        have S3' : SS (addA S D) s H3 := S3.add eD3
        walk_at "go"
        intro p1 n1
        obtain ⟨H4, e4, S4, k4, sm4, h4, f4, _⟩ := fresh (.tup [.int 0, .int 0]) S3' (Keep.refl s H3) n1
        rw [e4]
        have a1 : Da (addA S D) H4 (.ref p1) (.tuple [.int 0, .int 0]) := .tup f4 h4 (.cons (.int _) (.one (.int _)))
        walk_at "go"
        intro p2 n2
        obtain ⟨H5, e5, S5, k5, sm5, h5, f5, _⟩ := fresh (.lst []) S4 k4 n2
        rw [e5]
        have a2 : Da (addA S D) H5 (.ref p2) (.list []) := .lst f5 h5 .nil
        walk_at "go"
        intro p3 n3
        obtain ⟨H6, e6, S6, k6, sm6, h6, f6, _⟩ := fresh (.tup [.str "a", .str "b"]) S5 k5 n3
        rw [e6]
        have a3 : Da (addA S D) H6 (.ref p3) (.tuple [.str "a", .str "b"]) := .tup f6 h6 (.cons (.str _) (.one (.str _)))
        walk_at "go"
        intro p np
        refine pick_data (L := L + 1) (n := m' + 1) S6.so np (by simp) (by simp) (fun v hv => ?_) (fun H7 v dv k7 so7 hv hDv => ?_)
        · simp only [List.mem_cons, List.not_mem_nil, or_false] at hv
          rcases hv with rfl | rfl | rfl | rfl | rfl | rfl
          · exact ⟨_, .non, .non _⟩
          · exact ⟨_, .int _, .int _ _⟩
          · exact ⟨_, .str _, .str _ (by show 1 ≤ L + 1; omega)⟩
          · exact ⟨_, (a1.same sm5).same sm6, .tup (by show 2 ≤ L + 1; omega) fun u hu => by rcases List.mem_cons.mp hu with rfl | hu; exact .int _ _; rw [List.mem_singleton.mp hu]; exact .int _ _⟩
          · exact ⟨_, a2.same sm6, .lst (by show 0 ≤ L + 1; omega) fun u hu => nomatch hu⟩
          · exact ⟨_, a3, .tup (by show 2 ≤ L + 1; omega) fun u hu => by rcases List.mem_cons.mp hu with rfl | hu; exact .str _ (by show 1 ≤ L + 1; omega); rw [List.mem_singleton.mp hu]; exact .str _ (by show 1 ≤ L + 1; omega)⟩
        have k37 : Keep s H3 H7 := k6.trans k7
        have eD7 := k37 _ _ nDs eD3
        have h7 := hacc3.keep k37 (.inl hS.at_)
        refine ⟨D, acc, _, v, rfl, rfl, eD7, line_lt (by omega), by omega, by omega, ?_⟩
        rw [Int.toNat_natCast]
        refine ⟨(k3'.trans k37).new nD, ((k3'.trans k37).so S hS.so).put nSD, ⟨_, ds.take j ++ [dv] ++ ds.drop j, upd_same, (((h7.take _).app (.one hv)).app (h7.drop _)).at, ?_, fun u hu' => ?_⟩, _, _, rfl⟩
        · rw [List.length_append, List.length_append, List.length_take, List.length_drop, List.length_singleton]
          omega
        · rcases List.mem_append.mp hu' with h | h
          · rcases List.mem_append.mp h with h | h
            · exact hus u (List.mem_of_mem_take h)
            · rw [List.mem_singleton.mp h]; exact hDv
          · exact hus u (List.mem_of_mem_drop h)
    rintro σ' H4 ⟨k4, so4, ⟨ac, es, e4, h4, hl4, hu4⟩, z5, z6, rfl⟩
    refine ⟨_, rfl, _, "tuple", S, d, rfl, rfl, hd.keep k4 hS.at_, _, rfl, ite2 (fun _ => ?_) (fun _ => ?_)⟩
    · exact ⟨_, rfl, .inl ⟨D, ac, rfl, SqL.of e4, fun t nt => fin2 H4 ac es t k4 so4 e4 h4 hl4 hu4 nt⟩⟩
    · exact ⟨_, rfl, fin1 H4 ac es k4 so4 e4 h4 hl4 hu4⟩


set_option maxHeartbeats 4000000 in
theorem ok_law_bend_atom  (F : Fun K "_law_bend_atom" "_law_bend_atom" s_law_bend_atom f fd) (T : Txt w K mg)
    (O_law_pick : Own P w K mg base k "_law_pick" ["store", "things"] (sp_law_pick K)) : FnOk P w K mg base CX0 (k + 1) f fd ["store", "value"] (sp_law_bend_atom) := by
  refine F.ok sc_law_bend_atom (fun vs H Q E h => ?_) (fun cdv A outer s0 H vs Q E hr h => ?_)
  · obtain ⟨S, s, x, d, L, rfl, hS, hd, hD, hL1, hL2, q⟩ := h
    rfl
  · obtain ⟨S, s, x, d, L, rfl, hS, hd, hD, hL1, hL2, q⟩ := h
    refine ⟨_, (pss_cons (ps_if (pt_cmpR op_isN (pv 1) pe_non (nomark _))
        (pss_one (ps_ret (pe_own O_law_pick hr (by rfl) (pa_cons (pv 0) (pa_cons (pe_lst (pa_cons pe_int (pa_cons pe_bl (pa_cons pe_str (pa_cons (pe_lst pa_nil) (pa_cons (pe_tup pa_nil) pa_nil)))))) pa_nil)))))
        pss_nil)
      (pss_cons (ps_if (pt_val (pe_callB call_isD (by rfl) T.isinstance (by decide +kernel) (pa_cons (pv 1) (pa_cons (pe_bltn (v := .ty "bool") (by rfl) T.bool (by decide +kernel) rfl) pa_nil))))
        (pss_one (ps_ret (pe_own O_law_pick hr (by rfl) (pa_cons (pv 0) (pa_cons (pe_lst (pa_cons (pe_callTy call_int1 (by rfl) T.int (by decide +kernel) (pa_cons (pv 1) pa_nil)) (pa_cons (pe_not (pv 1)) (pa_cons pe_non pa_nil)))) pa_nil)))))
        pss_nil)
      (pss_cons (ps_if (pt_val (pe_callB call_isD (by rfl) T.isinstance (by decide +kernel) (pa_cons (pv 1) (pa_cons (pe_bltn (v := .ty "int") (by rfl) T.int (by decide +kernel) rfl) pa_nil))))
        (pss_cons (ps_set (i := 2) sc_law_bend_atom.nd rfl (Or.inl rfl) (pe_op op_add (pv 1) pe_int))
        (C8.pss_cut (ps_if (pt_cmpR op_gt (pv 1) pe_int (nomark _))
          (pss_one (ps_set (i := 2) sc_law_bend_atom.nd rfl (Or.inl rfl) (pe_op op_sub (pv 1) pe_int)))
          pss_nil)
        (pss_cons (ps_set (i := 3) sc_law_bend_atom.nd rfl (Or.inl rfl) (pv 2))
        (C8.pss_cut (ps_if (pt_cmpR op_lt (pe_callB call_abs (by rfl) T.abs (by decide +kernel) (pa_cons (pv 1) pa_nil)) (pe_op op_pow pe_int pe_int) (nomark _))
          (pss_one (ps_set (i := 3) sc_law_bend_atom.nd rfl (Or.inl rfl) (pe_op op_sub (pe_op op_add (pv 1) (pv 1)) (pv 2))))
          pss_nil)
        (pss_one (ps_ret (pe_own O_law_pick hr (by rfl) (pa_cons (pv 0) (pa_cons (pe_lst (pa_cons (pv 2) (pa_cons (pv 3) (pa_cons (pe_cmpR op_eq (pv 1) pe_int (nomark _)) (pa_cons pe_non (pa_cons pe_str (pa_cons (pe_lst (pa_cons (pv 1) pa_nil)) (pa_cons (pe_op op_sub pe_int (pv 1)) pa_nil)))))))) pa_nil)))))))))
        pss_nil)
      (pss_one (ps_ret (pe_own O_law_pick hr (by rfl) (pa_cons (pv 0) (pa_cons (pe_lst (pa_cons (pe_slice sl_str (pe_op op_add_str (pv 1) pe_str) po_none (po_some pe_int)) (pa_cons (pe_slice sl_str (pv 1) po_none (po_some (pe_un un_neg pe_int))) (pa_cons (pe_slice sl_str (pv 1) (po_some pe_int) po_none) (pa_cons pe_str (pa_cons pe_non (pa_cons pe_int (pa_cons (pe_lst (pa_cons (pv 1) pa_nil)) (pa_cons (pe_revS (pv 1)) pa_nil))))))))) pa_nil)))))))), ?_⟩
    have so0 := hS.so
    have one : ∀ {e : PyData}, Dd L 0 e → Dd L 1 (.list [e]) := fun {e} h => .lst (by show 1 ≤ L; omega) fun u hu => by rw [List.mem_singleton.mp hu]; exact h
    refine ⟨_, rfl, rfl, _, rfl, ite2 (fun h => ?_) (fun h => ?_)⟩
    · -- None
      walk_at "go"
      intro p1 n1
      obtain ⟨H2, e2, S2, k2, sm2, h2, f2, _⟩ := fresh (.lst []) hS (Keep.refl s H) n1
      rw [e2]
      have a1 : Da S H2 (.ref p1) (.list []) := .lst f2 h2 .nil
      walk_at "go"
      intro p2 n2
      obtain ⟨H3, e3, S3, k3, sm3, h3, f3, _⟩ := fresh (.tup []) S2 k2 n2
      rw [e3]
      have a2 : Da S H3 (.ref p2) (.tuple []) := .tup f3 h3 .nil
      walk_at "go"
      intro p np
      refine pick_data (L := L) (n := 1) S3.so np (by simp) (by simp) (fun v hv => ?_) (fun H' v d k so h hd => q H' v d (k3.trans k) so h hd)
      simp only [List.mem_cons, List.not_mem_nil, or_false] at hv
      rcases hv with rfl | rfl | rfl | rfl | rfl
      · exact ⟨_, .int _, .int _ _⟩
      · exact ⟨_, .bl _, .bl _ _⟩
      · exact ⟨_, .str _, .str _ (by show 0 ≤ L; omega)⟩
      · exact ⟨_, a1.same sm3, .lst (by show 0 ≤ L; omega) fun u hu => nomatch hu⟩
      · exact ⟨_, a2, .tup (by show 0 ≤ L; omega) fun u hu => nomatch hu⟩
    refine ⟨_, rfl, x, "bool", S, d, rfl, rfl, hd S H, _, rfl, ite2 (fun h1 => ?_) (fun h1 => ?_)⟩
    · obtain ⟨b, rfl⟩ := isD_bool h1
      cases hd S H
      refine ⟨_, rfl, _, rfl, .inr ⟨b, rfl, ?_⟩⟩
      refine ⟨_, rfl, b, rfl, ?_⟩
      walk_at "go"
      intro p np
      refine pick_data (L := L) (n := 1) so0 np (by simp) (by simp) (fun v hv => ?_) (fun H' v d k so h hd => q H' v d k so h hd)
      simp only [List.mem_cons, List.not_mem_nil, or_false] at hv
      rcases hv with rfl | rfl | rfl
      · exact ⟨_, .int _, .int _ _⟩
      · exact ⟨_, .bl _, .bl _ _⟩
      · exact ⟨_, .non, .non _⟩
    refine ⟨_, rfl, x, "int", S, d, rfl, rfl, hd S H, _, rfl, ite2 (fun h2 => ?_) (fun h2 => ?_)⟩
    · have hi : ∃ i, d = .int i := by
        rcases isD_int h2 with hh | ⟨b, rfl⟩
        · exact hh
        · exact absurd rfl h1
      obtain ⟨i, rfl⟩ := hi
      cases hd S H
      refine ⟨_, rfl, _, _, rfl, rfl, ?_⟩
      refine ⟨fun σ' H' => H' = H ∧ ∃ near, σ' = [some (.ref s), some (.int i), some (.int near), none], ?_, ?_⟩
      · refine ⟨_, rfl, _, _, rfl, rfl, _, rfl, ite2 (fun _ => ?_) (fun _ => ?_)⟩
        · exact ⟨_, rfl, _, _, rfl, rfl, rfl, _, rfl⟩
        · exact ⟨rfl, _, rfl⟩
      rintro σ' H' ⟨rfl, near, rfl⟩
      refine ⟨_, rfl, ?_⟩
      refine ⟨fun σ' H'' => H'' = H' ∧ ∃ far, σ' = [some (.ref s), some (.int i), some (.int near), some (.int far)], ?_, ?_⟩
      · refine ⟨_, rfl, _, rfl, _, _, rfl, rfl, ⟨by decide, by decide, by decide⟩, _, _, rfl, rfl, _, rfl, ite2 (fun _ => ?_) (fun _ => ?_)⟩
        · exact ⟨_, rfl, _, rfl, _, _, rfl, rfl, _, rfl, _, _, rfl, rfl, rfl, _, rfl⟩
        · exact ⟨rfl, _, rfl⟩
      rintro σ' H ⟨rfl, far, rfl⟩
      walk_at "go"
      intro p1 n1
      obtain ⟨H2, e2, S2, k2, sm2, h2, f2, _⟩ := fresh (.lst [.int i]) hS (Keep.refl s H) n1
      rw [e2]
      have a1 : Da S H2 (.ref p1) (.list [.int i]) := .lst f2 h2 (.one (.int _))
      walk_at "go"
      intro p np
      refine pick_data (L := L) (n := 1) S2.so np (by simp) (by simp) (fun v hv => ?_) (fun H' v d k so h hd => q H' v d (k2.trans k) so h hd)
      simp only [List.mem_cons, List.not_mem_nil, or_false] at hv
      rcases hv with rfl | rfl | rfl | rfl | rfl | rfl | rfl
      · exact ⟨_, .int _, .int _ _⟩
      · exact ⟨_, .int _, .int _ _⟩
      · exact ⟨_, .bl _, .bl _ _⟩
      · exact ⟨_, .non, .non _⟩
      · exact ⟨_, .str _, .str _ (by show 1 ≤ L; omega)⟩
      · exact ⟨_, a1, one (.int _ _)⟩
      · exact ⟨_, .int _, .int _ _⟩
    -- a text
    have hz : ∃ z, d = .str z := by
      have hdd := hd S H
      generalize hx : x = x' at hdd
      cases hdd with
      | str z => exact ⟨z, rfl⟩
      | non => subst hx; exact absurd rfl h
      | bl b => exact absurd rfl h1
      | int i => exact absurd rfl h2
      | lst a b c => cases hD
      | tup a b c => cases hD
    obtain ⟨z, rfl⟩ := hz
    cases hd S H
    cases hD with
    | str _ hz =>
    have hzl : z.length ≤ sizeLine := line_le (by omega)
    have hza : (z ++ ("a" : Str)).length ≤ sizeLine := by
      rw [str_app_len]
      exact line_le (by show z.length + 1 ≤ _; omega)
    refine ⟨_, rfl, _, rfl, _, _, rfl, rfl, (by rw [← str_app_len]; exact hza), _, rfl, _, rfl, hza, ?_⟩
    refine ⟨_, rfl, _, rfl, _, rfl, _, rfl, hzl, ?_⟩
    refine ⟨_, rfl, _, rfl, _, rfl, hzl, ?_⟩
    walk_at "go"
    intro p1 n1
    obtain ⟨H2, e2, S2, k2, sm2, h2, f2, _⟩ := fresh (.lst [.str z]) hS (Keep.refl s H) n1
    rw [e2]
    have a1 : Da S H2 (.ref p1) (.list [.str z]) := .lst f2 h2 (.one (.str _))
    refine ⟨_, rfl, z, rfl, hzl, ?_⟩
    walk_at "go"
    intro p np
    refine pick_data (L := L) (n := 1) S2.so np (by simp) (by simp) (fun v hv => ?_) (fun H' v d k so h hd => q H' v d (k2.trans k) so h hd)
    simp only [List.mem_cons, List.not_mem_nil, or_false] at hv
    rcases hv with rfl | rfl | rfl | rfl | rfl | rfl | rfl | rfl
    · refine ⟨_, .str _, .str _ (Nat.le_trans ?_ hL1)⟩
      rw [str_len, show (4000 : Int) = ((4000 : Nat) : Int) from rfl, cutS_to, List.length_take]
      exact Nat.min_le_left _ _
    · exact ⟨_, .str _, .str _ (Nat.le_trans (cutS_len _ _ _) hz)⟩
    · exact ⟨_, .str _, .str _ (Nat.le_trans (cutS_len _ _ _) hz)⟩
    · exact ⟨_, .str _, .str _ (by show 0 ≤ L; omega)⟩
    · exact ⟨_, .non, .non _⟩
    · exact ⟨_, .int _, .int _ _⟩
    · exact ⟨_, a1, one (.str _ hz)⟩
    · exact ⟨_, .str _, .str _ (by rw [revT_len]; exact hz)⟩


set_option maxHeartbeats 4000000 in
theorem ok_law_is_name  (F : Fun K "_law_is_name" "_law_is_name" s_law_is_name f fd) (T : Txt w K mg) : FnOk P w K mg base CX0 (k + 1) f fd ["value"] (sp_law_is_name) := by
  refine F.ok sc_law_is_name (fun vs H Q E h => ?_) (fun cdv A outer s0 H vs Q E hr h => ?_)
  · obtain ⟨S, x, d, L, m, rfl, hd, hD, hL, q⟩ := h
    rfl
  · obtain ⟨S, x, d, L, m, rfl, hd, hD, hL, q⟩ := h
    refine ⟨_, (pss_cons (ps_if (PW.pt (pw_or (pt_not (pt_val (pe_callB call_isD (by rfl) T.isinstance (by decide +kernel) (pa_cons (pv 0) (pa_cons (pe_bltn (v := .ty "str") (by rfl) T.str (by decide +kernel) rfl) pa_nil))))) (pw_or (pt_cmpR op_lt (pe_callB call_len_str (by rfl) T.len PySem.boot_len (pa_cons (pv 0) pa_nil)) pe_int (nomark _)) (pw_or1 (pt_cmpR op_gt (pe_callB call_len_str (by rfl) T.len PySem.boot_len (pa_cons (pv 0) pa_nil)) pe_int (nomark _))))))
        (pss_one (ps_ret pe_bl))
        pss_nil)
      (pss_cons (ps_for PassesOwn.never rfl (pi_str (pv 0)) (pg_name (i := 1) sc_law_is_name.nd rfl (Or.inl rfl))
        (pss_one (ps_if (pt_cmpR op_notIn_sign (pv 1) pe_str rfl)
          (pss_one (ps_ret pe_bl))
          pss_nil)))
      (pss_one (ps_ret (pe_cmpR op_notIn_sign (pe_ix ix_str (pv 0) pe_int (fun _ _ => rfl)) pe_str rfl))))), ?_⟩
    refine ⟨_, rfl, ?_⟩
    refine ⟨x, "str", S, d, rfl, rfl, hd, ?_⟩
    refine ⟨_, rfl, ?_⟩
    cases hs : isD "str" d with
    | false =>
      refine iteT ?_
      have e : nameD d = false := by cases d <;> first | rfl | (exact absurd hs (by simp only [isD, tyN]; decide))
      rw [e] at q
      exact q
    | true =>
    obtain ⟨z, rfl⟩ := isD_str hs
    cases hd
    cases hD with
    | str _ hz =>
    have hzl : z.length ≤ sizeLine := line_le (by omega)
    refine ⟨_, rfl, _, rfl, hzl, _, _, rfl, rfl, _, rfl, ite2 (fun h => ?_) (fun h1 => ?_)⟩
    · have h1 := of_decide_eq_true h
      have e : nameD (.str z) = false := by
        show nameL z.cps.toList = false
        have hl : z.cps.toList.length = 0 := by rw [← str_len]; omega
        rw [List.eq_nil_of_length_eq_zero hl]
        rfl
      rw [e] at q
      exact q
    refine ⟨_, rfl, _, rfl, hzl, _, _, rfl, rfl, _, rfl, ite2 (fun h => ?_) (fun h2 => ?_)⟩
    · have h1 := of_decide_eq_true h
      have e : nameD (.str z) = false := nameL_long (by rw [← str_len]; omega)
      rw [e] at q
      exact q
    have hl1 : 1 ≤ z.length := by
      refine Nat.one_le_iff_ne_zero.mpr fun h0 => h1 (decide_eq_true ?_)
      rw [h0]; decide
    have hl8 : z.length ≤ 8 := by
      refine Nat.le_of_not_lt fun h0 => h2 (decide_eq_true ?_)
      omega
    refine ⟨_, rfl, z, rfl, for_it walk_str (fun i σ H' => H' = H ∧ (∃ c, σ = [some (.str z), c]) ∧ ∀ j x, j < i → z.cps[j]? = some x → (isLet x || isDig x) = true) ⟨rfl, ⟨_, rfl⟩, fun j x hj => by omega⟩ (fun _ _ _ _ _ => trivial) ?_ ?_⟩
    · rintro i x σ H1 H2 hi ⟨rfl, ⟨c, rfl⟩, hall⟩ ⟨rfl, c, hc, rfl⟩
      refine ⟨_, rfl, c, _, rfl, rfl, _, rfl, ?_⟩
      rw [decide_mem_ld]
      cases hb : (isLet c || isDig c) with
      | false =>
        have e : nameD (.str z) = false := nameL_bad (List.mem_of_getElem? (str_at hc)) hb
        rw [e] at q
        exact q
      | true =>
        refine ⟨rfl, ⟨_, rfl⟩, fun j x hj hx => ?_⟩
        by_cases e : j = i
        · subst e
          rw [hc] at hx
          cases hx
          exact hb
        · exact hall j x (by omega) hx
    rintro σ H1 ⟨rfl, ⟨c, rfl⟩, hall⟩
    obtain ⟨c, r, hcr⟩ : ∃ c r, z.cps.toList = c :: r := by
      cases hh : z.cps.toList with
      | nil => rw [str_len, hh] at hl1; exact absurd hl1 (by decide)
      | cons c r => exact ⟨c, r, rfl⟩
    refine ⟨_, rfl, z, 0, c, rfl, rfl, hzl, atI_nat (j := 0) (by rw [hcr]; rfl), c, _, rfl, rfl, ?_⟩
    rw [decide_mem_dig]
    have e : nameD (.str z) = !isDig c := by
      show nameL z.cps.toList = _
      have hall' : ∀ x ∈ z.cps.toList, (isLet x || isDig x) = true := fun x hx => by
        obtain ⟨j, hj, ej⟩ := List.mem_iff_getElem.mp hx
        refine hall j x (by rw [Array.length_toList] at hj; exact hj) ?_
        rw [← Array.getElem?_toList, List.getElem?_eq_getElem hj, ej]
      rw [str_len] at hl8
      rw [hcr] at hall' hl8 ⊢
      exact nameL_good hall' hl8
    rw [e] at q
    exact q


set_option maxHeartbeats 4000000 in
theorem ok_law_word  (F : Fun K "_law_word" "_law_word" s_law_word f fd) (T : Txt w K mg)
    (O_law_pick : Own P w K mg base k "_law_pick" ["store", "things"] (sp_law_pick K)) : FnOk P w K mg base CX0 (k + 1) f fd ["store", "size"] (sp_law_word) := by
  refine F.ok sc_law_word (fun vs H Q E h => ?_) (fun cdv A outer s0 H vs Q E hr h => ?_)
  · obtain ⟨S, s, n, rfl, hS, h1, h2, q⟩ := h
    rfl
  · obtain ⟨S, s, n, rfl, hS, h1, h2, q⟩ := h
    refine ⟨_, (pss_cons (ps_set (i := 2) sc_law_word.nd rfl (Or.inl rfl) (pe_own O_law_pick hr (by rfl) (pa_cons (pv 0) (pa_cons pe_str pa_nil))))
      (pss_cons (ps_for PassesOwn.never rfl (pi_range1 (by rfl) T.range (pa_cons (pe_op op_sub (pv 1) pe_int) pa_nil)) (pg_name (i := 3) sc_law_word.nd rfl (Or.inl rfl))
        (pss_one (ps_set (i := 2) sc_law_word.nd rfl (Or.inl rfl) (pe_op op_add_str (pv 2) (pe_own O_law_pick hr (by rfl) (pa_cons (pv 0) (pa_cons pe_str pa_nil)))))))
      (pss_one (ps_ret (pv 2))))), ?_⟩
    refine ⟨_, rfl, ?_⟩
    refine pick_str hS (by decide) (by decide) fun H1 c k1 so1 hc => ?_
    refine ⟨_, rfl, _, _, rfl, rfl, _, rfl, by omega, by omega, for_range (n := (n - 1).toNat) (fun i σ H' => Keep s H H' ∧ SO S s H' ∧ ∃ (z : Str) (t : Option V), z.length = i + 1 ∧ wordL z.cps.toList = true ∧ σ = [some (.ref s), some (.int n), some (.str z), t]) ⟨k1, so1, _, _, rfl, (by show wordL [c] = true; rw [wordL_one]; exact mem_let.mp hc), rfl⟩ ?_ ?_⟩
    · rintro i σ H3 hi ⟨k3, so3, z, t, hz, hw, rfl⟩
      refine ⟨_, rfl, _, rfl, ?_⟩
      refine pick_str so3 (by decide) (by decide) fun H4 c4 k4 so4 hc4 => ?_
      refine ⟨_, _, rfl, rfl, ?_, k3.trans k4, so4, _, _, ?_, ?_, rfl⟩
      · rw [hz]
        exact line_le (by show i + 1 + 1 ≤ _; omega)
      · rw [str_app_len, hz]
        rfl
      · rw [str_app_list]
        exact wordL_snoc hw (mem_ld.mp hc4)
    rintro σ H3 ⟨k3, so3, z, t, hz, hw, rfl⟩
    exact ⟨_, rfl, q H3 z k3 so3 (by omega) hw⟩


set_option maxHeartbeats 4000000 in
theorem ok_law_no_name  (F : Fun K "_law_no_name" "_law_no_name" s_law_no_name f fd) (T : Txt w K mg)
    (O_law_take : Own P w K mg base k "_law_take" ["store", "many"] (sp_law_take))
    (O_law_pick : Own P w K mg base k "_law_pick" ["store", "things"] (sp_law_pick K))
    (O_law_word : Own P w K mg base k "_law_word" ["store", "size"] (sp_law_word)) : FnOk P w K mg base CX0 (k + 1) f fd ["store"] (sp_law_no_name) := by
  refine F.ok sc_law_no_name (fun vs H Q E h => ?_) (fun cdv A outer s0 H vs Q E hr h => ?_)
  · obtain ⟨S, s, rfl, hS, q⟩ := h
    rfl
  · obtain ⟨S, s, rfl, hS, q⟩ := h
    refine ⟨_, (pss_cons (ps_set (i := 1) sc_law_no_name.nd rfl (Or.inl rfl) (pe_own O_law_take hr (by rfl) (pa_cons (pv 0) (pa_cons pe_int pa_nil))))
      (pss_cons (ps_if (pt_cmpR op_eq (pv 1) pe_int (nomark _))
        (pss_one (ps_ret (pe_own O_law_pick hr (by rfl) (pa_cons (pv 0) (pa_cons (pe_lst (pa_cons pe_str (pa_cons pe_str (pa_cons pe_str (pa_cons pe_str (pa_cons pe_str (pa_cons pe_str (pa_cons pe_str (pa_cons pe_str (pa_cons pe_str (pa_cons pe_str (pa_cons pe_str (pa_cons pe_str pa_nil))))))))))))) pa_nil)))))
        pss_nil)
      (pss_cons (ps_if (pt_cmpR op_eq (pv 1) pe_int (nomark _))
        (pss_one (ps_ret (pe_own O_law_word hr (by rfl) (pa_cons (pv 0) (pa_cons (pe_op op_add pe_int (pe_own O_law_take hr (by rfl) (pa_cons (pv 0) (pa_cons pe_int pa_nil)))) pa_nil)))))
        pss_nil)
      (pss_cons (ps_set (i := 2) sc_law_no_name.nd rfl (Or.inl rfl) (pe_own O_law_word hr (by rfl) (pa_cons (pv 0) (pa_cons (pe_op op_add pe_int (pe_own O_law_take hr (by rfl) (pa_cons (pv 0) (pa_cons pe_int pa_nil)))) pa_nil))))
      (pss_cons (ps_set (i := 3) sc_law_no_name.nd rfl (Or.inl rfl) (pe_own O_law_take hr (by rfl) (pa_cons (pv 0) (pa_cons (pe_op op_add (pe_callB call_len_str (by rfl) T.len PySem.boot_len (pa_cons (pv 2) pa_nil)) pe_int) pa_nil))))
      (pss_one (ps_ret (pe_op op_add_str (pe_op op_add_str (pe_slice sl_str (pv 2) po_none (po_some (pv 3))) (pe_own O_law_pick hr (by rfl) (pa_cons (pv 0) (pa_cons pe_str pa_nil)))) (pe_slice sl_str (pv 2) (po_some (pv 3)) po_none))))))))), ?_⟩
    walk_at "go"
    intro H1 how k1 so1 _ _
    walk_at "go"
    refine ite2 (fun _ => ?_) (fun _ => ?_)
    · walk_at "go"
      intro p np
      refine pick_list so1 np (by simp) (by simp) (fun H2 v k2 _ so2 hv => ?_)
      obtain ⟨z, rfl, hz⟩ : ∃ z : Str, v = .str z ∧ z.length ≤ 100 := by
        simp only [List.mem_cons, List.not_mem_nil, or_false] at hv
        rcases hv with rfl | rfl | rfl | rfl | rfl | rfl | rfl | rfl | rfl | rfl | rfl | rfl <;> exact ⟨_, rfl, by decide⟩
      exact q H2 z (k1.trans k2) so2 hz
    walk_at "go"
    refine ite2 (fun _ => ?_) (fun _ => ?_)
    · walk_at "go"
      intro H2 r k2 so2 r0 r1
      refine ⟨_, _, rfl, rfl, S, s, _, rfl, so2, by omega, by omega, fun H3 z k3 so3 hz _ => q H3 z (k1.trans (k2.trans k3)) so3 (by omega)⟩
    walk_at "go"
    intro H2 r k2 so2 r0 r1
    refine ⟨_, _, rfl, rfl, S, s, _, rfl, so2, by omega, by omega, fun H3 z k3 so3 hz _ => ?_⟩
    have hzl : z.length ≤ sizeLine := line_le (by omega)
    refine ⟨_, rfl, _, rfl, z, rfl, hzl, _, _, rfl, rfl, S, s, _, rfl, so3, by omega, fun H4 a k4 so4 a0 a1 => ?_⟩
    refine ⟨_, rfl, _, rfl, _, rfl, z, rfl, hzl, _, rfl, ?_⟩
    refine pick_str so4 (by decide) (by decide) fun H5 c k5 so5 _ => ?_
    have h1 := cutS_len z none (some a)
    have h2 := cutS_len z (some a) none
    refine ⟨_, _, rfl, rfl, line_le (by show _ + 1 ≤ _; omega), _, rfl, _, rfl, _, rfl, z, rfl, hzl, _, _, rfl, rfl, line_le (by rw [str_app_len]; show _ + 1 + _ ≤ _; omega), ?_⟩
    refine q H5 _ (k1.trans (k2.trans (k3.trans (k4.trans k5)))) so5 ?_
    rw [str_app_len, str_app_len]
    show _ + 1 + _ ≤ _
    omega


set_option maxHeartbeats 4000000 in
theorem ok_law_bad_name  (F : Fun K "_law_bad_name" "_law_bad_name" s_law_bad_name f fd) (T : Txt w K mg)
    (O_law_take : Own P w K mg base k "_law_take" ["store", "many"] (sp_law_take))
    (O_law_no_name : Own P w K mg base k "_law_no_name" ["store"] (sp_law_no_name))
    (O_law_word : Own P w K mg base k "_law_word" ["store", "size"] (sp_law_word))
    (O_law_pick : Own P w K mg base k "_law_pick" ["store", "things"] (sp_law_pick K)) : FnOk P w K mg base CX0 (k + 1) f fd ["store"] (sp_law_bad_name) := by
  refine F.ok sc_law_bad_name (fun vs H Q E h => ?_) (fun cdv A outer s0 H vs Q E hr h => ?_)
  · obtain ⟨S, s, rfl, hS, q⟩ := h
    rfl
  · obtain ⟨S, s, rfl, hS, q⟩ := h
    refine ⟨_, (pss_cons (ps_if (pt_cmpR op_eq (pe_own O_law_take hr (by rfl) (pa_cons (pv 0) (pa_cons pe_int pa_nil))) pe_int (nomark _))
        (pss_one (ps_ret (pe_own O_law_no_name hr (by rfl) (pa_cons (pv 0) pa_nil))))
        pss_nil)
      (pss_cons (ps_set (i := 1) sc_law_bad_name.nd rfl (Or.inl rfl) (pe_own O_law_word hr (by rfl) (pa_cons (pv 0) (pa_cons pe_int pa_nil))))
      (pss_one (ps_ret (pe_own O_law_pick hr (by rfl) (pa_cons (pv 0) (pa_cons (pe_lst (pa_cons pe_non (pa_cons pe_bl (pa_cons pe_bl (pa_cons pe_int (pa_cons pe_int (pa_cons (pe_lst (pa_cons (pv 1) pa_nil)) (pa_cons (pe_tup (pa_cons (pv 1) pa_nil)) (pa_cons (pe_lst pa_nil) (pa_cons (pe_tup pa_nil) pa_nil)))))))))) pa_nil))))))), ?_⟩
    have so0 := hS.so
    walk_at "go"
    intro H1 r k1 so1 _ _
    walk_at "go"
    refine ite2 (fun _ => ?_) (fun _ => ?_)
    · walk_at "go"
      intro H2 z k2 so2 hz
      exact q H2 _ _ (k1.trans k2) so2 (.str z) (.str _ (by omega))
    refine ⟨_, rfl, S, s, _, rfl, so1, by decide, by decide, fun H2 z k2 so2 hz hw => ?_⟩
    have S2 := hS.keep (k1.trans k2) so2
    have hzl : z.length ≤ 4000 := by omega
    walk_at "go"
    intro p1 n1
    obtain ⟨H3, e3, S3, k3, sm3, h3, f3, _⟩ := fresh (.lst [.str z]) S2 (Keep.refl s H2) n1
    rw [e3]
    have a1 : Da S H3 (.ref p1) (.list [.str z]) := .lst f3 h3 (.one (.str _))
    walk_at "go"
    intro p2 n2
    obtain ⟨H4, e4, S4, k4, sm4, h4, f4, _⟩ := fresh (.tup [.str z]) S3 k3 n2
    rw [e4]
    have a2 : Da S H4 (.ref p2) (.tuple [.str z]) := .tup f4 h4 (.one (.str _))
    walk_at "go"
    intro p3 n3
    obtain ⟨H5, e5, S5, k5, sm5, h5, f5, _⟩ := fresh (.lst []) S4 k4 n3
    rw [e5]
    have a3 : Da S H5 (.ref p3) (.list []) := .lst f5 h5 .nil
    walk_at "go"
    intro p4 n4
    obtain ⟨H6, e6, S6, k6, sm6, h6, f6, _⟩ := fresh (.tup []) S5 k5 n4
    rw [e6]
    have a4 : Da S H6 (.ref p4) (.tuple []) := .tup f6 h6 .nil
    walk_at "go"
    intro p np
    refine pick_data (L := 4000) (n := 1) S6.so np (by simp) (by simp) (fun v hv => ?_) (fun H' v d k so h hd => q H' v d (k1.trans (k2.trans (k6.trans k))) so h hd)
    have one : ∀ u ∈ [PyData.str z], Dd 4000 0 u := fun u hu => by rw [List.mem_singleton.mp hu]; exact .str _ hzl
    simp only [List.mem_cons, List.not_mem_nil, or_false] at hv
    rcases hv with rfl | rfl | rfl | rfl | rfl | rfl | rfl | rfl | rfl
    · exact ⟨_, .non, .non _⟩
    · exact ⟨_, .bl _, .bl _ _⟩
    · exact ⟨_, .bl _, .bl _ _⟩
    · exact ⟨_, .int _, .int _ _⟩
    · exact ⟨_, .int _, .int _ _⟩
    · exact ⟨_, ((a1.same sm4).same sm5).same sm6, .lst (by show 1 ≤ 4000; decide) one⟩
    · exact ⟨_, (a2.same sm5).same sm6, .tup (by show 1 ≤ 4000; decide) one⟩
    · exact ⟨_, a3.same sm6, .lst (by decide) fun u hu => nomatch hu⟩
    · exact ⟨_, a4, .tup (by decide) fun u hu => nomatch hu⟩


set_option maxHeartbeats 4000000 in
theorem ok_law_value  (F : Fun K "_law_value" "_law_value" s_law_value f fd) (T : Txt w K mg)
    (O_law_take : Own P w K mg base k "_law_take" ["store", "many"] (sp_law_take))
    (O_law_word : Own P w K mg base k "_law_word" ["store", "size"] (sp_law_word))
    (O_law_no_name : Own P w K mg base k "_law_no_name" ["store"] (sp_law_no_name))
    (O_law_bad_name : Own P w K mg base k "_law_bad_name" ["store"] (sp_law_bad_name))
    (O_law_string : Own P w K mg base k "_law_string" ["store"] (sp_law_string))
    (O_law_plain : Own P w K mg base k "_law_plain" ["store"] (sp_law_plain))
    (O_law_bend : Own P w K mg base k "_law_bend" ["store", "paper"] (sp_law_bend 70))
    (O_law_pick : Own P w K mg base k "_law_pick" ["store", "things"] (sp_law_pick K)) : FnOk P w K mg base CX0 (k + 1) f fd ["store"] (sp_law_value) := by
  refine F.ok sc_law_value (fun vs H Q E h => ?_) (fun cdv A outer s0 H vs Q E hr h => ?_)
  · obtain ⟨S, s, rfl, hS, q⟩ := h
    rfl
  · obtain ⟨S, s, rfl, hS, q⟩ := h
    refine ⟨_, (pss_cons (ps_set (i := 1) sc_law_value.nd rfl (Or.inl rfl) (pe_own O_law_take hr (by rfl) (pa_cons (pv 0) (pa_cons pe_int pa_nil))))
      (pss_cons (ps_set (i := 2) sc_law_value.nd rfl (Or.inl rfl) (pe_own O_law_word hr (by rfl) (pa_cons (pv 0) (pa_cons (pe_op op_add pe_int (pe_own O_law_take hr (by rfl) (pa_cons (pv 0) (pa_cons pe_int pa_nil)))) pa_nil))))
      (pss_cons (ps_if (pt_cmpR op_eq (pv 1) pe_int (nomark _))
        (pss_one (ps_ret (pv 2)))
        pss_nil)
      (pss_cons (ps_if (pt_cmpR op_eq (pv 1) pe_int (nomark _))
        (pss_one (ps_ret (pe_own O_law_word hr (by rfl) (pa_cons (pv 0) (pa_cons (pe_op op_add pe_int (pe_own O_law_take hr (by rfl) (pa_cons (pv 0) (pa_cons pe_int pa_nil)))) pa_nil)))))
        pss_nil)
      (pss_cons (ps_if (pt_cmpR op_eq (pv 1) pe_int (nomark _))
        (pss_one (ps_ret (pe_own O_law_no_name hr (by rfl) (pa_cons (pv 0) pa_nil))))
        pss_nil)
      (pss_cons (ps_if (pt_cmpR op_eq (pv 1) pe_int (nomark _))
        (pss_one (ps_ret (pe_own O_law_bad_name hr (by rfl) (pa_cons (pv 0) pa_nil))))
        pss_nil)
      (pss_cons (ps_if (pt_cmpR op_eq (pv 1) pe_int (nomark _))
        (pss_one (ps_ret (pe_own O_law_string hr (by rfl) (pa_cons (pv 0) pa_nil))))
        pss_nil)
      (pss_cons (ps_if (pt_cmpR op_eq (pv 1) pe_int (nomark _))
        (pss_one (ps_ret (pe_own O_law_plain hr (by rfl) (pa_cons (pv 0) pa_nil))))
        pss_nil)
      (pss_cons (ps_if (pt_cmpR op_eq (pv 1) pe_int (nomark _))
        (pss_one (ps_ret (pe_own O_law_bend hr (by rfl) (pa_cons (pv 0) (pa_cons (pe_own O_law_pick hr (by rfl) (pa_cons (pv 0) (pa_cons (pe_lst (pa_cons (pv 2) (pa_cons (pe_lst (pa_cons (pv 2) pa_nil)) (pa_cons (pe_tup (pa_cons (pv 2) (pa_cons pe_int pa_nil))) (pa_cons (pe_tup (pa_cons (pv 2) (pa_cons (pv 2) pa_nil))) pa_nil))))) pa_nil))) pa_nil)))))
        pss_nil)
      (pss_cons (ps_if (pt_cmpR op_eq (pv 1) pe_int (nomark _))
        (pss_cons (ps_set (i := 3) sc_law_value.nd rfl (Or.inl rfl) (pe_lst (pa_cons (pe_lst (pa_cons (pv 2) pa_nil)) (pa_cons (pe_tup (pa_cons (pv 2) pa_nil)) (pa_cons (pe_lst (pa_cons (pv 2) (pa_cons (pv 2) pa_nil))) (pa_cons (pe_tup (pa_cons (pv 2) (pa_cons (pv 2) pa_nil))) (pa_cons (pe_lst (pa_cons (pe_lst (pa_cons (pv 2) pa_nil)) pa_nil)) (pa_cons (pe_upper (pv 2)) (pa_cons (pe_op op_add_str (pv 2) pe_str) (pa_cons (pe_op op_add_str pe_str (pv 2)) (pa_cons (pe_op op_mul_str (pv 2) pe_int) pa_nil)))))))))))
        (pss_one (ps_ret (pe_own O_law_pick hr (by rfl) (pa_cons (pv 0) (pa_cons (pe_op op_cat (pv 3) (pe_lst (pa_cons (pe_op op_add_str (pv 2) pe_str) (pa_cons (pe_op op_add_str pe_str (pv 2)) (pa_cons (pe_op op_add_str pe_str (pe_slice sl_str (pv 2) (po_some pe_int) po_none)) (pa_cons (pe_op op_add_str pe_str (pv 2)) pa_nil)))))) pa_nil))))))
        pss_nil)
      (pss_one (ps_ret (pe_own O_law_word hr (by rfl) (pa_cons (pv 0) (pa_cons (pe_op op_add pe_int (pe_own O_law_take hr (by rfl) (pa_cons (pv 0) (pa_cons pe_int pa_nil)))) pa_nil))))))))))))))), ?_⟩
    have so0 := hS.so
    walk_at "go"
    intro H1 how k1 so1 _ _
    walk_at "go"
    intro H2 r k2 so2 r0 r1
    refine ⟨_, _, rfl, rfl, S, s, _, rfl, so2, by omega, by omega, fun H3 z k3 so3 hz hw => ?_⟩
    have k3 := k1.trans (k2.trans k3)
    have S3 := hS.keep k3 so3
    have hzl : z.length ≤ 8 := by omega
    have q' : ∀ (H' : Hp) (v : V) (d : PyData) (L m : Nat), Keep s H3 H' → SO S s H' → Da S H' v d → Dd L m d → L ≤ 5000 → m ≤ 60 → Q v H' := fun H' v d L m k so h hD h1 h2 => q H' v d (k3.trans k) so h (hD.mono h1 h2)
    walk_at "go"
    refine ite2 (fun _ => ?_) (fun _ => ?_)
    · walk_at "go"
      exact q' H3 _ _ 8 0 (Keep.refl _ _) so3 (.str z) (.str _ hzl) (by decide) (by decide)
    walk_at "go"
    refine ite2 (fun _ => ?_) (fun _ => ?_)
    · walk_at "go"
      intro H4 r4 k4 so4 r40 r41
      refine ⟨_, _, rfl, rfl, S, s, _, rfl, so4, by omega, by omega, fun H5 z5 k5 so5 hz5 _ => ?_⟩
      exact q' H5 _ _ 12 0 (k4.trans k5) so5 (.str z5) (.str _ (by omega)) (by decide) (by decide)
    walk_at "go"
    refine ite2 (fun _ => ?_) (fun _ => ?_)
    · walk_at "go"
      intro H4 z4 k4 so4 hz4
      exact q' H4 _ _ 100 0 k4 so4 (.str z4) (.str _ hz4) (by decide) (by decide)
    walk_at "go"
    refine ite2 (fun _ => ?_) (fun _ => ?_)
    · walk_at "go"
      intro H4 v d k4 so4 hd hD
      exact q' H4 _ _ 4000 1 k4 so4 hd hD (by decide) (by decide)
    walk_at "go"
    refine ite2 (fun _ => ?_) (fun _ => ?_)
    · walk_at "go"
      intro H4 z4 k4 so4 hz4
      exact q' H4 _ _ 4000 0 k4 so4 (.str z4) (.str _ hz4) (by decide) (by decide)
    walk_at "go"
    refine ite2 (fun _ => ?_) (fun _ => ?_)
    · walk_at "go"
      intro H4 v d k4 so4 hd hD
      exact q' H4 _ _ 4000 60 k4 so4 hd hD (by decide) (by decide)
    have oneL : ∀ {L m : Nat} {d : PyData}, Dd L m d → 1 ≤ L → Dd L (m + 1) (.list [d]) := fun h hL => .lst hL fun u hu => by rw [List.mem_singleton.mp hu]; exact h
    have oneT : ∀ {L m : Nat} {d : PyData}, Dd L m d → 1 ≤ L → Dd L (m + 1) (.tuple [d]) := fun h hL => .tup hL fun u hu => by rw [List.mem_singleton.mp hu]; exact h
    have twoL : ∀ {L m : Nat} {d e : PyData}, Dd L m d → Dd L m e → 2 ≤ L → Dd L (m + 1) (.list [d, e]) := fun h h' hL => .lst hL fun u hu => by
      rcases List.mem_cons.mp hu with rfl | hu
      · exact h
      · rw [List.mem_singleton.mp hu]; exact h'
    have twoT : ∀ {L m : Nat} {d e : PyData}, Dd L m d → Dd L m e → 2 ≤ L → Dd L (m + 1) (.tuple [d, e]) := fun h h' hL => .tup hL fun u hu => by
      rcases List.mem_cons.mp hu with rfl | hu
      · exact h
      · rw [List.mem_singleton.mp hu]; exact h'
    have hzD : Dd 4000 0 (.str z) := .str _ (by omega)
    walk_at "go"
    refine ite2 (fun _ => ?_) (fun _ => ?_)
    · walk_at "go"
      intro p1 n1
      obtain ⟨H4, e4, S4, k4, sm4, h4, f4, _⟩ := fresh (.lst [.str z]) S3 (Keep.refl s H3) n1
      rw [e4]
      have a1 : Da S H4 (.ref p1) (.list [.str z]) := .lst f4 h4 (.one (.str _))
      walk_at "go"
      intro p2 n2
      obtain ⟨H5, e5, S5, k5, sm5, h5, f5, _⟩ := fresh (.tup [.str z, .int 0]) S4 k4 n2
      rw [e5]
      have a2 : Da S H5 (.ref p2) (.tuple [.str z, .int 0]) := .tup f5 h5 (.cons (.str _) (.one (.int _)))
      walk_at "go"
      intro p3 n3
      obtain ⟨H6, e6, S6, k6, sm6, h6, f6, _⟩ := fresh (.tup [.str z, .str z]) S5 k5 n3
      rw [e6]
      have a3 : Da S H6 (.ref p3) (.tuple [.str z, .str z]) := .tup f6 h6 (.cons (.str _) (.one (.str _)))
      walk_at "go"
      intro p np
      refine pick_data (L := 4000) (n := 1) S6.so np (by simp) (by simp) (fun v hv => ?_) (fun H' v d k so h hd => ?_)
      · simp only [List.mem_cons, List.not_mem_nil, or_false] at hv
        rcases hv with rfl | rfl | rfl | rfl
        · exact ⟨_, .str _, hzD.lift (by decide)⟩
        · exact ⟨_, (a1.same sm5).same sm6, oneL hzD (by decide)⟩
        · exact ⟨_, a2.same sm6, twoT hzD (.int _ _) (by decide)⟩
        · exact ⟨_, a3, twoT hzD hzD (by decide)⟩
      · refine ⟨S, s, v, d, 4000, 1, rfl, (S6.keep k so), h, hd, by decide, by decide, by decide, by decide, fun H7 v7 d7 k7 so7 h7 hD7 => ?_⟩
        exact q' H7 _ _ 4001 2 (k6.trans (k.trans k7)) so7 h7 hD7 (by decide) (by decide)
    walk_at "go"
    refine ite2 (fun _ => ?_) (fun _ => ?_)
    · walk_at "go"
      intro p1 n1
      obtain ⟨H4, e4, S4, k4, sm4, h4, f4, _⟩ := fresh (.lst [.str z]) S3 (Keep.refl s H3) n1
      rw [e4]
      have a1 : Da S H4 (.ref p1) (.list [.str z]) := .lst f4 h4 (.one (.str _))
      walk_at "go"
      intro p2 n2
      obtain ⟨H5, e5, S5, k5, sm5, h5, f5, _⟩ := fresh (.tup [.str z]) S4 k4 n2
      rw [e5]
      have a2 : Da S H5 (.ref p2) (.tuple [.str z]) := .tup f5 h5 (.one (.str _))
      walk_at "go"
      intro p3 n3
      obtain ⟨H6, e6, S6, k6, sm6, h6, f6, _⟩ := fresh (.lst [.str z, .str z]) S5 k5 n3
      rw [e6]
      have a3 : Da S H6 (.ref p3) (.list [.str z, .str z]) := .lst f6 h6 (.cons (.str _) (.one (.str _)))
      walk_at "go"
      intro p4 n4
      obtain ⟨H7, e7, S7, k7, sm7, h7, f7, _⟩ := fresh (.tup [.str z, .str z]) S6 k6 n4
      rw [e7]
      have a4 : Da S H7 (.ref p4) (.tuple [.str z, .str z]) := .tup f7 h7 (.cons (.str _) (.one (.str _)))
      walk_at "go"
      intro p5 n5
      obtain ⟨H8, e8, S8, k8, sm8, h8, f8, _⟩ := fresh (.lst [.str z]) S7 k7 n5
      rw [e8]
      have a5 : Da S H8 (.ref p5) (.list [.str z]) := .lst f8 h8 (.one (.str _))
      walk_at "go"
      intro p6 n6
      obtain ⟨H9, e9, S9, k9, sm9, h9, f9, _⟩ := fresh (.lst [.ref p5]) S8 k8 n6
      rw [e9]
      have a6 : Da S H9 (.ref p6) (.list [.list [.str z]]) := .lst f9 h9 (.one (a5.same sm9))
      have hul : (Txt.upper z).length ≤ 3 * z.length := len_upper z
      refine ⟨_, rfl, ⟨_, rfl⟩, z, rfl, rfl, by omega, ?_⟩
      refine ⟨_, rfl, _, _, rfl, rfl, line_le (by show _ + 1 ≤ _; omega), ?_⟩
      refine ⟨_, rfl, _, _, rfl, rfl, line_le (by show 1 + _ ≤ _; omega), ?_⟩
      refine ⟨_, rfl, _, _, rfl, rfl, by decide, by decide, by omega, ?_⟩
      walk_at "go"
      intro p7 n7
      obtain ⟨H10, e10, S10, k10, sm10, h10, f10, nps⟩ := fresh (.lst [.ref p1, .ref p2, .ref p3, .ref p4, .ref p6, .str (Txt.upper z), .str (z ++ " "), .str (" " ++ z), .str (Txt.mul z 9)]) S9 k9 n7
      rw [e10]
      have hcl := cutS_len z (some 1) none
      refine ⟨_, rfl, _, rfl, _, rfl, _, _, rfl, rfl, line_le (by show _ + 1 ≤ _; omega), ?_⟩
      refine ⟨_, rfl, _, _, rfl, rfl, line_le (by show 1 + _ ≤ _; omega), ?_⟩
      refine ⟨_, rfl, _, rfl, z, rfl, line_le (by omega), _, _, rfl, rfl, line_le (by show 1 + _ ≤ _; omega), ?_⟩
      refine ⟨_, rfl, _, _, rfl, rfl, line_le (by show 1 + _ ≤ _; omega), ?_⟩
      walk_at "go"
      intro p8 n8
      obtain ⟨H11, e11, S11, k11, sm11, h11, f11, _⟩ := fresh (.lst [.str (z ++ "\n"), .str ("\n" ++ z), .str ("1" ++ cutS z (some 1) none), .str ("0" ++ z)]) S10 k10 n8
      rw [e11]
      refine ⟨p7, p8, _, _, rfl, rfl, sm11 _ _ h10, h11, (by show 9 + 4 ≤ sizeLine; decide), fun p np => ?_⟩
      refine pick_data (L := 4000) (n := 2) S11.so np (by simp) (by simp) (fun v hv => ?_) (fun H' v d k so h hd => ?_)
      · simp only [List.mem_cons, List.mem_append, List.not_mem_nil, or_false] at hv
        have b1 := (((((((a1.same sm5).same sm6).same sm7).same sm8).same sm9).same sm10).same sm11)
        have b2 := ((((((a2.same sm6).same sm7).same sm8).same sm9).same sm10).same sm11)
        have b3 := (((((a3.same sm7).same sm8).same sm9).same sm10).same sm11)
        have b4 := ((((a4.same sm8).same sm9).same sm10).same sm11)
        have b6 := ((a6.same sm10).same sm11)
        rcases hv with (rfl | rfl | rfl | rfl | rfl | rfl | rfl | rfl | rfl) | rfl | rfl | rfl | rfl
        · exact ⟨_, b1, (oneL hzD (by decide)).lift (by decide)⟩
        · exact ⟨_, b2, (oneT hzD (by decide)).lift (by decide)⟩
        · exact ⟨_, b3, (twoL hzD hzD (by decide)).lift (by decide)⟩
        · exact ⟨_, b4, (twoT hzD hzD (by decide)).lift (by decide)⟩
        · exact ⟨_, b6, oneL (oneL hzD (by decide)) (by decide)⟩
        · exact ⟨_, .str _, .str _ (by omega)⟩
        · exact ⟨_, .str _, .str _ (by rw [str_app_len]; show _ + 1 ≤ _; omega)⟩
        · exact ⟨_, .str _, .str _ (by rw [str_app_len]; show 1 + _ ≤ _; omega)⟩
        · exact ⟨_, .str _, .str _ (by rw [mul_len _ _ (by decide)]; show 9 * _ ≤ _; omega)⟩
        · exact ⟨_, .str _, .str _ (by rw [str_app_len]; show _ + 1 ≤ _; omega)⟩
        · exact ⟨_, .str _, .str _ (by rw [str_app_len]; show 1 + _ ≤ _; omega)⟩
        · exact ⟨_, .str _, .str _ (by rw [str_app_len]; show 1 + _ ≤ _; omega)⟩
        · exact ⟨_, .str _, .str _ (by rw [str_app_len]; show 1 + _ ≤ _; omega)⟩
      · exact q' H' _ _ 4000 2 (k11.trans k) so h hd (by decide) (by decide)
    walk_at "go"
    intro H4 r4 k4 so4 r40 r41
    refine ⟨_, _, rfl, rfl, S, s, _, rfl, so4, by omega, by omega, fun H5 z5 k5 so5 hz5 _ => ?_⟩
    exact q' H5 _ _ 12 0 (k4.trans k5) so5 (.str z5) (.str _ (by omega)) (by decide) (by decide)


set_option maxHeartbeats 4000000 in
theorem ok_law_told  (F : Fun K "_law_told" "_law_told" s_law_told f fd) (T : Txt w K mg)
    (O_law_copy : Own P w K mg base k "_law_copy" ["value"] (sp_law_copy 71))
    (O_law_same : Own P w K mg base k "_law_same" ["given", "due"] (sp_law_same 71))
    (O_is_name : Own P w K mg base k "is_name" ["value"] (sp_is_name)) : FnOk P w K mg base CX0 (k + 1) f fd ["value", "due"] (sp_law_told) := by
  refine F.ok sc_law_told (fun vs H Q E h => ?_) (fun cdv A outer s0 H vs Q E hr h => ?_)
  · obtain ⟨S, x, d, b, L, m, rfl, hS, hd, hD, hm, hL, hb, q⟩ := h
    rfl
  · obtain ⟨S, x, d, b, L, m, rfl, hS, hd, hD, hm, hL, hb, q⟩ := h
    refine ⟨_, (pss_cons (ps_set (i := 2) sc_law_told.nd rfl (Or.inl rfl) (pe_own O_law_copy hr (by rfl) (pa_cons (pv 0) pa_nil)))
      (pss_cons (ps_set (i := 3) sc_law_told.nd rfl (Or.inl rfl) (pe_and (pe_own O_law_same hr (by rfl) (pa_cons (pe_own O_is_name hr (by rfl) (pa_cons (pv 0) pa_nil)) (pa_cons (pv 1) pa_nil))) (pe_one (pe_own O_law_same hr (by rfl) (pa_cons (pe_ownK0 O_is_name hr (by rfl) (pk_cons (pv 0) pk_nil)) (pa_cons (pv 1) pa_nil))))))
      (pss_one (ps_ret (pe_and (pv 3) (pe_one (pe_own O_law_same hr (by rfl) (pa_cons (pv 0) (pa_cons (pv 2) pa_nil))))))))), ?_⟩
    refine ⟨_, rfl, S, x, d, L, m, rfl, hS, hd, hD, by omega, hL, fun H1 v sm1 hv => ?_⟩
    have hd1 := hd.same sm1
    have hS1 := hS.same sm1
    refine ⟨_, rfl, S, x, d, L, m, rfl, hd1, hD, hL, fun H2 sm2 => ?_⟩
    refine ⟨_, rfl, S, _, _, _, _, L, 0, rfl, hS1.same sm2, .bl _, .bl b, .bl _ _, by omega, hL, fun H3 c sm3 hc => ?_⟩
    have c1 : c = true := hc.mpr (by rw [hb])
    subst c1
    have s23 := sm2.trans sm3
    refine ⟨_, rfl, _, rfl, rfl, S, x, d, L, m, rfl, hd1.same s23, hD, hL, fun H4 sm4 => ?_⟩
    have s24 := s23.trans sm4
    refine ⟨_, rfl, S, _, _, _, _, L, 0, rfl, hS1.same s24, .bl _, .bl b, .bl _ _, by omega, hL, fun H5 c sm5 hc => ?_⟩
    have c1 : c = true := hc.mpr (by rw [hb])
    subst c1
    have s25 := s24.trans sm5
    refine ⟨_, rfl, _, rfl, ?_⟩
    refine ⟨_, rfl, _, rfl, S, x, v, d, d, L, m, rfl, hS1.same s25, hd1.same s25, hv.same s25, hD, by omega, hL, fun H6 c sm6 hc => ?_⟩
    have c1 : c = true := hc.mpr rfl
    subst c1
    exact q H6 (sm1.trans (s25.trans sm6))


set_option maxHeartbeats 4000000 in
theorem ok_law_swept  (F : Fun K "_law_swept" "_law_swept" s_law_swept f fd) (T : Txt w K mg)
    (O_law_told : Own P w K mg base k "_law_told" ["value", "due"] (sp_law_told)) : FnOk P w K mg base CX0 (k + 1) f fd ["word", "at"] (sp_law_swept) := by
  refine F.ok sc_law_swept (fun vs H Q E h => ?_) (fun cdv A outer s0 H vs Q E hr h => ?_)
  · obtain ⟨S, z, j, rfl, hS, hw, hz, hj, q⟩ := h
    rfl
  · obtain ⟨S, z, j, rfl, hS, hw, hz, hj, q⟩ := h
    refine ⟨_, (pss_cons (ps_set (i := 2) sc_law_swept.nd rfl (Or.inl rfl) pe_str)
      (pss_cons (ps_set (i := 3) sc_law_swept.nd rfl (Or.inl rfl) pe_str)
      (pss_cons (ps_for PassesOwn.never rfl (pi_str (pe_op op_add_str (pv 2) (pv 3))) (pg_name (i := 4) sc_law_swept.nd rfl (Or.inl rfl))
        (C8.pss_cut (ps_set (i := 5) sc_law_swept.nd rfl (Or.inl rfl) (pe_or (pe_cmpR op_in_sign (pv 4) (pv 2) rfl) (pe_one (pe_and (pe_cmpR op_gt (pv 1) pe_int (nomark _)) (pe_one (pe_cmpR op_in_sign (pv 4) pe_str rfl))))))
        (pss_one (ps_if (pt_not (pt_val (pe_own O_law_told hr (by rfl) (pa_cons (pe_op op_add_str (pe_op op_add_str (pe_slice sl_str (pv 0) po_none (po_some (pv 1))) (pv 4)) (pe_slice sl_str (pv 0) (po_some (pe_op op_add (pv 1) pe_int)) po_none)) (pa_cons (pv 5) pa_nil)))))
          (pss_one (ps_ret pe_bl))
          pss_nil))))
      (pss_one (ps_ret pe_bl))))), ?_⟩
    have hzl : z.length ≤ sizeLine := line_le (by omega)
    refine ⟨_, rfl, _, rfl, _, _, rfl, rfl, by decide +kernel, _, rfl, for_it walk_str (fun i σ H' => Same H H' ∧ ∃ y4 y5, σ = [some (.str z), some (.int j), some (.str "abcdefghijklmnopqrstuvwxyz"), some (.str " !\"#$&'()*+,-./0123456789:;<=>?@ABCDEFGHIJKLMNOPQRSTUVWXYZ[\\]^_`{|}~\n"), y4, y5]) ⟨Same.refl _, _, _, rfl⟩ (fun _ _ _ _ _ => trivial) ?_ ?_⟩
    · rintro i x σ H1 H2 hi ⟨sm, y4, y5, rfl⟩ ⟨rfl, c, hc, rfl⟩
      refine ⟨fun σ' H' => H' = H2 ∧ σ' = [some (.str z), some (.int j), some (.str "abcdefghijklmnopqrstuvwxyz"), some (.str " !\"#$&'()*+,-./0123456789:;<=>?@ABCDEFGHIJKLMNOPQRSTUVWXYZ[\\]^_`{|}~\n"), some (.str ⟨#[c]⟩), some (.bl (isLet c || (decide (0 < j) && isDig c)))], ?_, ?_⟩
      · refine ⟨_, rfl, _, rfl, c, _, rfl, rfl, _, rfl, ?_⟩
        rw [decide_mem_let]
        cases hl : isLet c with
        | true => exact ⟨rfl, rfl⟩
        | false =>
          refine ⟨_, rfl, _, _, rfl, rfl, _, rfl, ?_⟩
          rw [decide_pos]
          cases h0 : decide (0 < j) with
          | false => exact ⟨rfl, rfl⟩
          | true =>
            refine ⟨_, rfl, c, _, rfl, rfl, ?_⟩
            rw [decide_mem_dig]
            exact ⟨rfl, rfl⟩
      rintro σ' H' ⟨rfl, rfl⟩
      have h1 := cutS_len z none (some (j : Int))
      have h2 := cutS_len z (some ((j : Int) + 1)) none
      have e : nameD (.str (cutS z none (some (j : Int)) ++ ⟨#[c]⟩ ++ cutS z (some ((j : Int) + 1)) none)) = (isLet c || (decide (0 < j) && isDig c)) := by
        show nameL (cutS z none (some (j : Int)) ++ ⟨#[c]⟩ ++ cutS z (some ((j : Int) + 1)) none).cps.toList = _
        rw [str_app_list, str_app_list, cutS_to, show (j : Int) + 1 = ((j + 1 : Nat) : Int) from rfl, cutS_from]
        exact swept hw hz hj
      refine ⟨_, rfl, _, rfl, _, rfl, z, rfl, hzl, _, rfl, _, _, rfl, rfl, line_le (by show _ + 1 ≤ _; omega), ?_⟩
      refine ⟨_, rfl, _, rfl, _, _, rfl, rfl, _, rfl, z, rfl, hzl, _, _, rfl, rfl, line_le (by rw [str_app_len]; show _ + 1 + _ ≤ _; omega), ?_⟩
      refine ⟨_, rfl, S, _, _, _, 100, 0, rfl, hS.same sm, .str _, .str _ (by rw [str_app_len, str_app_len]; show _ + 1 + _ ≤ _; omega), by decide, by decide, e.symm, fun H3 sm3 => ?_⟩
      exact ⟨_, rfl, sm.trans sm3, _, _, rfl⟩
    rintro σ H1 ⟨sm, y4, y5, rfl⟩
    exact q H1 sm


set_option maxHeartbeats 4000000 in
theorem ok_law  (F : Fun K "law" "law" s_law f fd) (T : Txt w K mg)
    (O_law_store : Own P w K mg base k "_law_store" ["script"] (sp_law_store K))
    (O_law_value : Own P w K mg base k "_law_value" ["store"] (sp_law_value))
    (O_law_told : Own P w K mg base k "_law_told" ["value", "due"] (sp_law_told))
    (O_law_is_name : Own P w K mg base k "_law_is_name" ["value"] (sp_law_is_name))
    (O_law_word : Own P w K mg base k "_law_word" ["store", "size"] (sp_law_word))
    (O_law_take : Own P w K mg base k "_law_take" ["store", "many"] (sp_law_take))
    (O_law_swept : Own P w K mg base k "_law_swept" ["word", "at"] (sp_law_swept)) : FnOk P w K mg base CX0 (k + 1) f fd ["script"] (sp_law K) := by
  refine F.ok sc_law (fun vs H Q E h => ?_) (fun cdv A outer s0 H vs Q E hr h => ?_)
  · obtain ⟨a, ns, rfl, hns, hlen, q⟩ := h
    rfl
  · obtain ⟨a, ns, rfl, hns, hlen, q⟩ := h
    refine ⟨_, (pss_cons (ps_set (i := 1) sc_law.nd rfl (Or.inr rfl) (pe_own O_law_store hr (by rfl) (pa_cons (pv 0) pa_nil)))
      (pss_cons (ps_setLc (i := 2) (own := [("turn", 7)]) (by rfl) sc_law.nd rfl rfl (sw_true rfl rfl rfl (by decide +kernel)) (pi_range1 (by rfl) T.range (pa_cons pe_int pa_nil)) (blkOk_by (own := [("turn", 7)]) (N := ["script", "store", "values", "value", "word", "row", "size", "turn"]) (sc := defScope s_law) (by decide +kernel)) (fun _ _ _ _ _ => pg_name (i := 7) sc_law.nd rfl (Or.inl rfl)) (fun _ _ _ _ _ => pts_nil) (fun _ _ _ _ _ => (pe_own O_law_value hr (by rfl) (pa_cons (pv 1) pa_nil))))
      (pss_cons (ps_for PassesOwn.never rfl (pi_list (pv 2)) (pg_name (i := 3) sc_law.nd rfl (Or.inl rfl))
        (pss_one (ps_if (pt_not (pt_val (pe_own O_law_told hr (by rfl) (pa_cons (pv 3) (pa_cons (pe_own O_law_is_name hr (by rfl) (pa_cons (pv 3) pa_nil)) pa_nil)))))
          (pss_one (ps_ret pe_bl))
          pss_nil)))
      (pss_cons (ps_set (i := 4) sc_law.nd rfl (Or.inl rfl) (pe_own O_law_word hr (by rfl) (pa_cons (pv 1) (pa_cons (pe_op op_add pe_int (pe_own O_law_take hr (by rfl) (pa_cons (pv 1) (pa_cons pe_int pa_nil)))) pa_nil))))
      (pss_cons (ps_if (pt_not (pt_val (pe_own O_law_swept hr (by rfl) (pa_cons (pv 4) (pa_cons (pe_own O_law_take hr (by rfl) (pa_cons (pv 1) (pa_cons (pe_callB call_len_str (by rfl) T.len PySem.boot_len (pa_cons (pv 4) pa_nil)) pa_nil))) pa_nil)))))
        (pss_one (ps_ret pe_bl))
        pss_nil)
      (pss_cons (ps_set (i := 5) sc_law.nd rfl (Or.inl rfl) (pe_own O_law_word hr (by rfl) (pa_cons (pv 1) (pa_cons pe_int pa_nil))))
      (pss_cons (ps_for PassesOwn.never rfl (pi_range1 (by rfl) T.range (pa_cons pe_int pa_nil)) (pg_name (i := 6) sc_law.nd rfl (Or.inl rfl))
        (pss_one (ps_if (pt_not (pt_val (pe_own O_law_told hr (by rfl) (pa_cons (pe_slice sl_str (pv 5) po_none (po_some (pv 6))) (pa_cons (pe_chain op_le op_le pe_int (pv 6) pe_int) pa_nil)))))
          (pss_one (ps_ret pe_bl))
          pss_nil)))
      (pss_cons (ps_for PassesOwn.never rfl (pi_list (pe_revL (pv 2))) (pg_name (i := 3) sc_law.nd rfl (Or.inl rfl))
        (pss_one (ps_if (pt_not (pt_val (pe_own O_law_told hr (by rfl) (pa_cons (pv 3) (pa_cons (pe_own O_law_is_name hr (by rfl) (pa_cons (pv 3) pa_nil)) pa_nil)))))
          (pss_one (ps_ret pe_bl))
          pss_nil)))
      (pss_one (ps_ret pe_bl)))))))))), ?_⟩
    refine ⟨_, rfl, a, ns, rfl, hns, hlen, fun H1 S s sm1 al1 so1 => ?_⟩
    have S1 : SS S s H1 := ⟨so1, al1⟩
    refine ⟨_, rfl, by decide, by decide, fun D nD => ?_⟩
    have nDs : D ≠ s := S1.ne nD
    refine lc_range (lo := 0) (n := 8) (fun i H' => Keep s H1 H' ∧ ∃ (acc : List V) (ds : List PyData), H' D = some (.lst acc) ∧ DaAll (addA S D) H' acc ds ∧ acc.length = i ∧ ∀ d ∈ ds, Dd 5000 60 d) ⟨(Keep.refl s H1).new nD, [], [], upd_same, .nil, rfl, fun d hd => nomatch hd⟩ ?_ ?_
    · rintro i H2 hi ⟨k2, acc, ds, eD, hacc, hl, hds⟩
      refine ⟨rfl, ?_⟩
      refine ⟨_, rfl, addA S D, s, rfl, (S1.keep k2 (k2.so S so1)).add eD, fun H3 v d k3 so3 hv hD => ?_⟩
      have eD3 := k3 _ _ nDs eD
      refine ⟨acc, eD3, line_lt (by omega), (k2.trans k3).new nD, acc ++ [v], ds ++ [d], upd_same, ((hacc.keep k3 (.inl S1.at_)).app (.one hv)).at, ?_, fun e he => ?_⟩
      · rw [List.length_append, hl]; rfl
      · rcases List.mem_append.mp he with he | he
        · exact hds e he
        · rw [List.mem_singleton.mp he]; exact hD
    rintro H2 ⟨k2, acc, ds, eD, hacc, hl, hds⟩
    have so2 := k2.so S so1
    have S2 := S1.keep k2 so2
    have hacc2 := hacc.less
    clear hacc
    refine ⟨_, rfl, D, rfl, ⟨_, SqL.of eD⟩, for_list (K := K) (a := D) (xs := acc) (fun i σ H' => Same H2 H' ∧ ∃ y, σ = [some (.ref a), some (.ref s), some (.ref D), y, none, none, none, none]) ⟨Same.refl _, _, rfl⟩ (fun i σ H' _ hp => SqL.of (hp.1 _ _ eD)) ?_ ?_⟩
    · rintro i x σ H3 hi ⟨sm3, y, rfl⟩
      obtain ⟨d, hd, hda⟩ := hacc2.get hi
      have hD := hds d (List.mem_of_getElem? hd)
      refine ⟨_, rfl, _, rfl, S, x, d, 5000, 60, rfl, hda.same sm3, hD, by decide, S, x, d, _, 5000, 60, rfl, S2.al.same sm3, hda.same sm3, hD, by decide, by decide, rfl, fun H4 sm4 => ?_⟩
      exact ⟨_, rfl, sm3.trans sm4, _, rfl⟩
    rintro σ H3 ⟨sm3, y, rfl⟩
    have S3 := S2.same sm3
    have k3 : Keep s H2 H3 := Keep.of sm3
    have so3 := S3.so
    refine ⟨_, rfl, _, rfl, S, s, _, rfl, so3, by decide, fun H4 r4 k4 so4 r40 r41 => ?_⟩
    refine ⟨_, _, rfl, rfl, S, s, _, rfl, so4, by omega, by omega, fun H5 z k5 so5 hz hw => ?_⟩
    have hzl : z.length ≤ 8 := by omega
    refine ⟨_, rfl, _, rfl, _, rfl, z, rfl, line_le (by omega), S, s, _, rfl, so5, by omega, fun H6 j k6 so6 j0 j1 => ?_⟩
    have k26 : Keep s H2 H6 := k3.trans (k4.trans (k5.trans k6))
    have S6 := S2.keep k26 so6
    obtain ⟨i, rfl⟩ : ∃ i : Nat, j = (i : Int) := ⟨j.toNat, by omega⟩
    refine ⟨S, z, i, rfl, S6.al, hw, hzl, by omega, fun H7 sm7 => ⟨_, rfl, ?_⟩⟩
    have k27 := k26.trans (Keep.of (s := s) sm7)
    have so7 := so6.same sm7
    refine ⟨_, rfl, S, s, _, rfl, so7, by decide, by decide, fun H8 row k8 so8 hrow hroww => ?_⟩
    have k28 := k27.trans k8
    have S8 := S2.keep k28 so8
    have hr12 : row.cps.toList.length = 12 := by
      rw [← str_len]
      omega
    refine ⟨_, rfl, by decide, by decide, for_range (n := 13) (fun i σ H' => Same H8 H' ∧ ∃ y y2, σ = [some (.ref a), some (.ref s), some (.ref D), y, some (.str z), some (.str row), y2, none]) ⟨Same.refl _, _, _, rfl⟩ ?_ ?_⟩
    · rintro i σ H9 hi ⟨sm9, y, y2, rfl⟩
      have hk : i ≤ 12 := by
        have : i < 13 := hi
        omega
      have e : nameD (.str (cutS row none (some (0 + (i : Int))))) = (decide (1 ≤ i) && decide (i ≤ 8)) := by
        show nameL (cutS row none (some (0 + (i : Int)))).cps.toList = _
        rw [Int.zero_add, cutS_to]
        exact row_name hroww hr12 hk
      have hcl := cutS_len row none (some (0 + (i : Int)))
      have hcl2 : (cutS row none (some (0 + (i : Int)))).length ≤ 100 := by
        have : row.length = 12 := by rw [str_len, hr12]
        omega
      refine ⟨_, rfl, _, rfl, _, rfl, row, rfl, line_le (by rw [str_len, hr12]; decide), _, rfl, _, _, rfl, rfl, _, rfl, ?_⟩
      by_cases h1 : (1 : Int) ≤ 0 + (i : Int)
      · rw [decide_eq_true h1]
        refine ⟨_, _, rfl, rfl, S, _, _, _, 100, 0, rfl, S8.al.same sm9, .str _, .str _ hcl2, by decide, by decide, ?_, fun H10 sm10 => ⟨_, rfl, sm9.trans sm10, _, _, rfl⟩⟩
        rw [e, decide_eq_true (show 1 ≤ i by omega), Bool.true_and, Bool.eq_iff_iff, decide_eq_true_eq, decide_eq_true_eq]
        omega
      · rw [decide_eq_false h1]
        refine ⟨S, _, _, _, 100, 0, rfl, S8.al.same sm9, .str _, .str _ hcl2, by decide, by decide, ?_, fun H10 sm10 => ⟨_, rfl, sm9.trans sm10, _, _, rfl⟩⟩
        rw [e, decide_eq_false (show ¬ 1 ≤ i by omega)]
        rfl
    rintro σ H9 ⟨sm9, y, y2, rfl⟩
    have k29 := k28.trans (Keep.of (s := s) sm9)
    have eD9 := k29 _ _ nDs eD
    refine ⟨_, rfl, D, acc, rfl, SqL.of eD9, fun R nR => ?_⟩
    have hR : upd H9 R (.lst acc.reverse) R = some (.lst acc.reverse) := upd_same
    have hacc9 : DaAll S (upd H9 R (.lst acc.reverse)) acc.reverse ds.reverse := ((hacc2.keep k29 S1.at_).new nR).reverse
    have al9 : Al S (upd H9 R (.lst acc.reverse)) := (S8.al.same sm9).upd
    generalize upd H9 R (.lst acc.reverse) = H10 at hR hacc9 al9 ⊢
    refine ⟨R, rfl, ⟨_, SqL.of hR⟩, for_list (K := K) (a := R) (xs := acc.reverse) (fun i σ H' => Same H10 H' ∧ ∃ y y2, σ = [some (.ref a), some (.ref s), some (.ref D), y, some (.str z), some (.str row), y2, none]) ⟨Same.refl _, _, _, rfl⟩ (fun i σ H' _ hp => SqL.of (hp.1 _ _ hR)) ?_ ?_⟩
    · rintro i x σ H11 hi ⟨sm11, y, y2, rfl⟩
      obtain ⟨d, hd, hda⟩ := hacc9.get hi
      have hD := hds d (List.mem_reverse.mp (List.mem_of_getElem? hd))
      refine ⟨_, rfl, _, rfl, S, x, d, 5000, 60, rfl, hda.same sm11, hD, by decide, S, x, d, _, 5000, 60, rfl, al9.same sm11, hda.same sm11, hD, by decide, by decide, rfl, fun H12 sm12 => ?_⟩
      exact ⟨_, rfl, sm11.trans sm12, _, _, rfl⟩
    rintro σ H11 ⟨sm11, y, y2, rfl⟩
    exact q H11
end
def d_is_name : He.DefD := ⟨("is_name", none), "is_name", "is_name", defArgs s_is_name, defBody s_is_name, defScope s_is_name, [], []⟩
def d_law_mix : He.DefD := ⟨("_law_mix", none), "_law_mix", "_law_mix", defArgs s_law_mix, defBody s_law_mix, defScope s_law_mix, [], []⟩
def d_law_store : He.DefD := ⟨("_law_store", none), "_law_store", "_law_store", defArgs s_law_store, defBody s_law_store, defScope s_law_store, [], []⟩
def d_law_take : He.DefD := ⟨("_law_take", none), "_law_take", "_law_take", defArgs s_law_take, defBody s_law_take, defScope s_law_take, [], []⟩
def d_law_pick : He.DefD := ⟨("_law_pick", none), "_law_pick", "_law_pick", defArgs s_law_pick, defBody s_law_pick, defScope s_law_pick, [], []⟩
def d_law_number : He.DefD := ⟨("_law_number", none), "_law_number", "_law_number", defArgs s_law_number, defBody s_law_number, defScope s_law_number, [], []⟩
def d_law_same : He.DefD := ⟨("_law_same", none), "_law_same", "_law_same", defArgs s_law_same, defBody s_law_same, defScope s_law_same, [], []⟩
def d_law_copy : He.DefD := ⟨("_law_copy", none), "_law_copy", "_law_copy", defArgs s_law_copy, defBody s_law_copy, defScope s_law_copy, [], []⟩
def d_law_sign : He.DefD := ⟨("_law_sign", none), "_law_sign", "_law_sign", defArgs s_law_sign, defBody s_law_sign, defScope s_law_sign, [], []⟩
def d_law_string : He.DefD := ⟨("_law_string", none), "_law_string", "_law_string", defArgs s_law_string, defBody s_law_string, defScope s_law_string, [], []⟩
def d_law_atom : He.DefD := ⟨("_law_atom", none), "_law_atom", "_law_atom", defArgs s_law_atom, defBody s_law_atom, defScope s_law_atom, [], []⟩
def d_law_plain : He.DefD := ⟨("_law_plain", none), "_law_plain", "_law_plain", defArgs s_law_plain, defBody s_law_plain, defScope s_law_plain, [], []⟩
def d_law_bend : He.DefD := ⟨("_law_bend", none), "_law_bend", "_law_bend", defArgs s_law_bend, defBody s_law_bend, defScope s_law_bend, [], []⟩
def d_law_bend_row : He.DefD := ⟨("_law_bend_row", none), "_law_bend_row", "_law_bend_row", defArgs s_law_bend_row, defBody s_law_bend_row, defScope s_law_bend_row, [], []⟩
def d_law_bend_atom : He.DefD := ⟨("_law_bend_atom", none), "_law_bend_atom", "_law_bend_atom", defArgs s_law_bend_atom, defBody s_law_bend_atom, defScope s_law_bend_atom, [], []⟩
def d_law_is_name : He.DefD := ⟨("_law_is_name", none), "_law_is_name", "_law_is_name", defArgs s_law_is_name, defBody s_law_is_name, defScope s_law_is_name, [], []⟩
def d_law_word : He.DefD := ⟨("_law_word", none), "_law_word", "_law_word", defArgs s_law_word, defBody s_law_word, defScope s_law_word, [], []⟩
def d_law_no_name : He.DefD := ⟨("_law_no_name", none), "_law_no_name", "_law_no_name", defArgs s_law_no_name, defBody s_law_no_name, defScope s_law_no_name, [], []⟩
def d_law_bad_name : He.DefD := ⟨("_law_bad_name", none), "_law_bad_name", "_law_bad_name", defArgs s_law_bad_name, defBody s_law_bad_name, defScope s_law_bad_name, [], []⟩
def d_law_value : He.DefD := ⟨("_law_value", none), "_law_value", "_law_value", defArgs s_law_value, defBody s_law_value, defScope s_law_value, [], []⟩
def d_law_told : He.DefD := ⟨("_law_told", none), "_law_told", "_law_told", defArgs s_law_told, defBody s_law_told, defScope s_law_told, [], []⟩
def d_law_swept : He.DefD := ⟨("_law_swept", none), "_law_swept", "_law_swept", defArgs s_law_swept, defBody s_law_swept, defScope s_law_swept, [], []⟩
def d_law : He.DefD := ⟨("law", none), "law", "law", defArgs s_law, defBody s_law, defScope s_law, [], []⟩
def fnL : List He.DefD := [d_is_name, d_law_mix, d_law_store, d_law_take, d_law_pick, d_law_number, d_law_same, d_law_copy, d_law_sign, d_law_string, d_law_atom, d_law_plain, d_law_bend, d_law_bend_row, d_law_bend_atom, d_law_is_name, d_law_word, d_law_no_name, d_law_bad_name, d_law_value, d_law_told, d_law_swept, d_law]
def faL : List He.Fa := [.glo "is_name", .glo "_law_mix", .glo "_law_store", .glo "_law_take", .glo "_law_pick", .glo "_law_number", .glo "_law_same", .glo "_law_copy", .glo "_law_sign", .glo "_law_string", .glo "_law_atom", .glo "_law_plain", .glo "_law_bend", .glo "_law_bend_row", .glo "_law_bend_atom", .glo "_law_is_name", .glo "_law_word", .glo "_law_no_name", .glo "_law_bad_name", .glo "_law_value", .glo "_law_told", .glo "_law_swept", .glo "law", .free "len", .free "isinstance", .free "str", .free "all", .free "int", .free "max", .free "abs", .free "range", .free "tuple", .free "list", .free "bool", .int "LONGEST_NAME" 8, .str "LETTERS" "abcdefghijklmnopqrstuvwxyz", .str "DIGITS" "0123456789"]
abbrev R : PySem.W.OpenRow := PySem.W.OpenLaw.row PySem.Challenge.rw_levelgifts_k00_names
abbrev hk : PySem.W.Hook := He.hookD 4 faL fnL
def ob (s : PySem.W.SharedT) : He.AlD := He.obsDG 4 faL fnL (HandSHeadRun.getT s)
theorem ob_eq (s : PySem.W.SharedT) : ob s = hk.obs s.abs := He.obsDG_eq (HandSHeadRun.getT_eq s)
def loose : List PySem.Str := ["__name__", "LETTERS", "DIGITS", "LONGEST_NAME", "is_name", "_law_mix", "_law_store", "_law_take", "_law_pick", "_law_number", "_law_same", "_law_copy", "_law_sign", "_law_string", "_law_atom", "_law_plain", "_law_bend", "_law_bend_row", "_law_bend_atom", "_law_is_name", "_law_word", "_law_no_name", "_law_bad_name", "_law_value", "_law_told", "_law_swept"]
theorem run (w : World) : HandSHeadRun.RunEq R (PySem.W.view R.prog [27]) hk ob 4000 loose w := by
  intro os
  kernel_rfl
set_option maxHeartbeats 0 in
theorem facts {P : Program} {w : World} {K : PySem.W.Frag} {h : Heap} {mg : Str → Option Value} {f : Addr} (X : K.In h) (G : h.Ns mainGlobals mg) (hfa : mg ("law" : Str) = some (.ref f)) (c : He.SaysD faL fnL K) :
    ∃ fd : FuncData, (∀ (s : Shared) (v : Value), BindsTo s fd ⟨[v], []⟩ [("script", v)]) ∧ ∀ base : Heap, K.In base → base.Ns mainGlobals mg → FnOk P w K mg base CX0 144 f fd ["script"] (sp_law K) := by
  obtain ⟨fd0, F0⟩ := c.def_ 22 (d := d_law) rfl
  have e := hfa.symm.trans (He.glo_ok X G (c.fact 22 (f := .glo "law") rfl))
  cases e
  have b := FunD.bindsA (ps := ["script"]) F0 fun _ _ _ _ _ _ us hl => match us, hl with | [_], _ => rfl
  refine ⟨fd0, fun s v => b s [v] rfl, fun base _ _ => ?_⟩
  have T : Txt w K mg := ⟨He.free_ok X G (c.fact 23 (f := .free "len") rfl), He.int_ok X G (c.fact 34 rfl), He.free_ok X G (c.fact 24 (f := .free "isinstance") rfl), He.free_ok X G (c.fact 25 (f := .free "str") rfl), He.free_ok X G (c.fact 26 (f := .free "all") rfl), He.str_ok X G (c.fact 35 rfl), He.str_ok X G (c.fact 36 rfl), He.free_ok X G (c.fact 27 (f := .free "int") rfl), He.free_ok X G (c.fact 28 (f := .free "max") rfl), He.free_ok X G (c.fact 29 (f := .free "abs") rfl), He.free_ok X G (c.fact 30 (f := .free "range") rfl), He.free_ok X G (c.fact 31 (f := .free "tuple") rfl), He.free_ok X G (c.fact 32 (f := .free "list") rfl), He.free_ok X G (c.fact 33 (f := .free "bool") rfl)⟩
  obtain ⟨fd_is_name, FD_is_name⟩ := c.def_ 0 (d := d_is_name) rfl
  have F_is_name : Fun K "is_name" "is_name" s_is_name (He.fAd K d_is_name.at_) fd_is_name := fun_of FD_is_name
  have g_is_name : mg "is_name" = some (.ref (He.fAd K d_is_name.at_)) := He.glo_ok X G (c.fact 0 (f := .glo "is_name") rfl)
  have b_is_name : Binds K fd_is_name ["value"] [] := FD_is_name.bindsN fun _ _ _ _ _ _ us hl => match us, hl with | [_], _ => rfl
  have kb_is_name : KBn K fd_is_name ["value"] 0 ["value"] (fun _ ws => ws) (fun _ zs => zs) := kbn_of F_is_name fun _ _ _ _ _ _ ws hl => match ws, hl with | [_], _ => rfl
  have O_is_name : Own P w K mg base 1 "is_name" ["value"] (sp_is_name) := Own.mk' F_is_name (ok_is_name (k := 0) F_is_name T ) g_is_name b_is_name kb_is_name
  obtain ⟨fd_law_mix, FD_law_mix⟩ := c.def_ 1 (d := d_law_mix) rfl
  have F_law_mix : Fun K "_law_mix" "_law_mix" s_law_mix (He.fAd K d_law_mix.at_) fd_law_mix := fun_of FD_law_mix
  have g_law_mix : mg "_law_mix" = some (.ref (He.fAd K d_law_mix.at_)) := He.glo_ok X G (c.fact 1 (f := .glo "_law_mix") rfl)
  have b_law_mix : Binds K fd_law_mix ["cell", "turn"] [] := FD_law_mix.bindsN fun _ _ _ _ _ _ us hl => match us, hl with | [_, _], _ => rfl
  have kb_law_mix : KBn K fd_law_mix ["cell", "turn"] 0 ["cell", "turn"] (fun _ ws => ws) (fun _ zs => zs) := kbn_of F_law_mix fun _ _ _ _ _ _ ws hl => match ws, hl with | [_, _], _ => rfl
  have O_law_mix : Own P w K mg base 1 "_law_mix" ["cell", "turn"] (sp_law_mix) := Own.mk' F_law_mix (ok_law_mix (k := 0) F_law_mix T ) g_law_mix b_law_mix kb_law_mix
  obtain ⟨fd_law_store, FD_law_store⟩ := c.def_ 2 (d := d_law_store) rfl
  have F_law_store : Fun K "_law_store" "_law_store" s_law_store (He.fAd K d_law_store.at_) fd_law_store := fun_of FD_law_store
  have g_law_store : mg "_law_store" = some (.ref (He.fAd K d_law_store.at_)) := He.glo_ok X G (c.fact 2 (f := .glo "_law_store") rfl)
  have b_law_store : Binds K fd_law_store ["script"] [] := FD_law_store.bindsN fun _ _ _ _ _ _ us hl => match us, hl with | [_], _ => rfl
  have kb_law_store : KBn K fd_law_store ["script"] 0 ["script"] (fun _ ws => ws) (fun _ zs => zs) := kbn_of F_law_store fun _ _ _ _ _ _ ws hl => match ws, hl with | [_], _ => rfl
  have O_law_store : Own P w K mg base 2 "_law_store" ["script"] (sp_law_store K) := Own.mk' F_law_store (ok_law_store (k := 1) F_law_store T (O_law_mix.up (by decide))) g_law_store b_law_store kb_law_store
  obtain ⟨fd_law_take, FD_law_take⟩ := c.def_ 3 (d := d_law_take) rfl
  have F_law_take : Fun K "_law_take" "_law_take" s_law_take (He.fAd K d_law_take.at_) fd_law_take := fun_of FD_law_take
  have g_law_take : mg "_law_take" = some (.ref (He.fAd K d_law_take.at_)) := He.glo_ok X G (c.fact 3 (f := .glo "_law_take") rfl)
  have b_law_take : Binds K fd_law_take ["store", "many"] [] := FD_law_take.bindsN fun _ _ _ _ _ _ us hl => match us, hl with | [_, _], _ => rfl
  have kb_law_take : KBn K fd_law_take ["store", "many"] 0 ["store", "many"] (fun _ ws => ws) (fun _ zs => zs) := kbn_of F_law_take fun _ _ _ _ _ _ ws hl => match ws, hl with | [_, _], _ => rfl
  have O_law_take : Own P w K mg base 2 "_law_take" ["store", "many"] (sp_law_take) := Own.mk' F_law_take (ok_law_take (k := 1) F_law_take T (O_law_mix.up (by decide))) g_law_take b_law_take kb_law_take
  obtain ⟨fd_law_pick, FD_law_pick⟩ := c.def_ 4 (d := d_law_pick) rfl
  have F_law_pick : Fun K "_law_pick" "_law_pick" s_law_pick (He.fAd K d_law_pick.at_) fd_law_pick := fun_of FD_law_pick
  have g_law_pick : mg "_law_pick" = some (.ref (He.fAd K d_law_pick.at_)) := He.glo_ok X G (c.fact 4 (f := .glo "_law_pick") rfl)
  have b_law_pick : Binds K fd_law_pick ["store", "things"] [] := FD_law_pick.bindsN fun _ _ _ _ _ _ us hl => match us, hl with | [_, _], _ => rfl
  have kb_law_pick : KBn K fd_law_pick ["store", "things"] 0 ["store", "things"] (fun _ ws => ws) (fun _ zs => zs) := kbn_of F_law_pick fun _ _ _ _ _ _ ws hl => match ws, hl with | [_, _], _ => rfl
  have O_law_pick : Own P w K mg base 3 "_law_pick" ["store", "things"] (sp_law_pick K) := Own.mk' F_law_pick (ok_law_pick (k := 2) F_law_pick T (O_law_take.up (by decide))) g_law_pick b_law_pick kb_law_pick
  obtain ⟨fd_law_number, FD_law_number⟩ := c.def_ 5 (d := d_law_number) rfl
  have F_law_number : Fun K "_law_number" "_law_number" s_law_number (He.fAd K d_law_number.at_) fd_law_number := fun_of FD_law_number
  have g_law_number : mg "_law_number" = some (.ref (He.fAd K d_law_number.at_)) := He.glo_ok X G (c.fact 5 (f := .glo "_law_number") rfl)
  have b_law_number : Binds K fd_law_number ["store"] [] := FD_law_number.bindsN fun _ _ _ _ _ _ us hl => match us, hl with | [_], _ => rfl
  have kb_law_number : KBn K fd_law_number ["store"] 0 ["store"] (fun _ ws => ws) (fun _ zs => zs) := kbn_of F_law_number fun _ _ _ _ _ _ ws hl => match ws, hl with | [_], _ => rfl
  have O_law_number : Own P w K mg base 4 "_law_number" ["store"] (sp_law_number) := Own.mk' F_law_number (ok_law_number (k := 3) F_law_number T (O_law_take.up (by decide)) (O_law_pick.up (by decide))) g_law_number b_law_number kb_law_number
  obtain ⟨fd_law_same, FD_law_same⟩ := c.def_ 6 (d := d_law_same) rfl
  have F_law_same : Fun K "_law_same" "_law_same" s_law_same (He.fAd K d_law_same.at_) fd_law_same := fun_of FD_law_same
  have g_law_same : mg "_law_same" = some (.ref (He.fAd K d_law_same.at_)) := He.glo_ok X G (c.fact 6 (f := .glo "_law_same") rfl)
  have b_law_same : Binds K fd_law_same ["given", "due"] [] := FD_law_same.bindsN fun _ _ _ _ _ _ us hl => match us, hl with | [_, _], _ => rfl
  have kb_law_same : KBn K fd_law_same ["given", "due"] 0 ["given", "due"] (fun _ ws => ws) (fun _ zs => zs) := kbn_of F_law_same fun _ _ _ _ _ _ ws hl => match ws, hl with | [_, _], _ => rfl
  have O_law_same : ∀ n : Nat, Own P w K mg base (0 + n) "_law_same" ["given", "due"] (sp_law_same n) := fun n => by
      induction n with
      | zero => exact Own.mk' F_law_same (FnOk.never fun vs H Q E h => by
          obtain ⟨S, x, y, d, e, L, m, rfl, hS, hd, he, hD, hm, hL, q⟩ := h
          omega) g_law_same b_law_same kb_law_same
      | succ n ih => exact Own.mk' F_law_same (ok_law_same (k := 0 + n) F_law_same T ih) g_law_same b_law_same kb_law_same
  obtain ⟨fd_law_copy, FD_law_copy⟩ := c.def_ 7 (d := d_law_copy) rfl
  have F_law_copy : Fun K "_law_copy" "_law_copy" s_law_copy (He.fAd K d_law_copy.at_) fd_law_copy := fun_of FD_law_copy
  have g_law_copy : mg "_law_copy" = some (.ref (He.fAd K d_law_copy.at_)) := He.glo_ok X G (c.fact 7 (f := .glo "_law_copy") rfl)
  have b_law_copy : Binds K fd_law_copy ["value"] [] := FD_law_copy.bindsN fun _ _ _ _ _ _ us hl => match us, hl with | [_], _ => rfl
  have kb_law_copy : KBn K fd_law_copy ["value"] 0 ["value"] (fun _ ws => ws) (fun _ zs => zs) := kbn_of F_law_copy fun _ _ _ _ _ _ ws hl => match ws, hl with | [_], _ => rfl
  have O_law_copy : ∀ n : Nat, Own P w K mg base (0 + n) "_law_copy" ["value"] (sp_law_copy n) := fun n => by
      induction n with
      | zero => exact Own.mk' F_law_copy (FnOk.never fun vs H Q E h => by
          obtain ⟨S, x, d, L, m, rfl, hS, hd, hD, hm, hL, q⟩ := h
          omega) g_law_copy b_law_copy kb_law_copy
      | succ n ih => exact Own.mk' F_law_copy (ok_law_copy (k := 0 + n) F_law_copy T ih) g_law_copy b_law_copy kb_law_copy
  obtain ⟨fd_law_sign, FD_law_sign⟩ := c.def_ 8 (d := d_law_sign) rfl
  have F_law_sign : Fun K "_law_sign" "_law_sign" s_law_sign (He.fAd K d_law_sign.at_) fd_law_sign := fun_of FD_law_sign
  have g_law_sign : mg "_law_sign" = some (.ref (He.fAd K d_law_sign.at_)) := He.glo_ok X G (c.fact 8 (f := .glo "_law_sign") rfl)
  have b_law_sign : Binds K fd_law_sign ["store"] [] := FD_law_sign.bindsN fun _ _ _ _ _ _ us hl => match us, hl with | [_], _ => rfl
  have kb_law_sign : KBn K fd_law_sign ["store"] 0 ["store"] (fun _ ws => ws) (fun _ zs => zs) := kbn_of F_law_sign fun _ _ _ _ _ _ ws hl => match ws, hl with | [_], _ => rfl
  have O_law_sign : Own P w K mg base 4 "_law_sign" ["store"] (sp_law_sign) := Own.mk' F_law_sign (ok_law_sign (k := 3) F_law_sign T (O_law_pick.up (by decide))) g_law_sign b_law_sign kb_law_sign
  obtain ⟨fd_law_string, FD_law_string⟩ := c.def_ 9 (d := d_law_string) rfl
  have F_law_string : Fun K "_law_string" "_law_string" s_law_string (He.fAd K d_law_string.at_) fd_law_string := fun_of FD_law_string
  have g_law_string : mg "_law_string" = some (.ref (He.fAd K d_law_string.at_)) := He.glo_ok X G (c.fact 9 (f := .glo "_law_string") rfl)
  have b_law_string : Binds K fd_law_string ["store"] [] := FD_law_string.bindsN fun _ _ _ _ _ _ us hl => match us, hl with | [_], _ => rfl
  have kb_law_string : KBn K fd_law_string ["store"] 0 ["store"] (fun _ ws => ws) (fun _ zs => zs) := kbn_of F_law_string fun _ _ _ _ _ _ ws hl => match ws, hl with | [_], _ => rfl
  have O_law_string : Own P w K mg base 5 "_law_string" ["store"] (sp_law_string) := Own.mk' F_law_string (ok_law_string (k := 4) F_law_string T (O_law_take.up (by decide)) (O_law_sign.up (by decide))) g_law_string b_law_string kb_law_string
  obtain ⟨fd_law_atom, FD_law_atom⟩ := c.def_ 10 (d := d_law_atom) rfl
  have F_law_atom : Fun K "_law_atom" "_law_atom" s_law_atom (He.fAd K d_law_atom.at_) fd_law_atom := fun_of FD_law_atom
  have g_law_atom : mg "_law_atom" = some (.ref (He.fAd K d_law_atom.at_)) := He.glo_ok X G (c.fact 10 (f := .glo "_law_atom") rfl)
  have b_law_atom : Binds K fd_law_atom ["store"] [] := FD_law_atom.bindsN fun _ _ _ _ _ _ us hl => match us, hl with | [_], _ => rfl
  have kb_law_atom : KBn K fd_law_atom ["store"] 0 ["store"] (fun _ ws => ws) (fun _ zs => zs) := kbn_of F_law_atom fun _ _ _ _ _ _ ws hl => match ws, hl with | [_], _ => rfl
  have O_law_atom : Own P w K mg base 6 "_law_atom" ["store"] (sp_law_atom) := Own.mk' F_law_atom (ok_law_atom (k := 5) F_law_atom T (O_law_take.up (by decide)) (O_law_number.up (by decide)) (O_law_string.up (by decide)) (O_law_pick.up (by decide))) g_law_atom b_law_atom kb_law_atom
  obtain ⟨fd_law_plain, FD_law_plain⟩ := c.def_ 11 (d := d_law_plain) rfl
  have F_law_plain : Fun K "_law_plain" "_law_plain" s_law_plain (He.fAd K d_law_plain.at_) fd_law_plain := fun_of FD_law_plain
  have g_law_plain : mg "_law_plain" = some (.ref (He.fAd K d_law_plain.at_)) := He.glo_ok X G (c.fact 11 (f := .glo "_law_plain") rfl)
  have b_law_plain : Binds K fd_law_plain ["store"] [] := FD_law_plain.bindsN fun _ _ _ _ _ _ us hl => match us, hl with | [_], _ => rfl
  have kb_law_plain : KBn K fd_law_plain ["store"] 0 ["store"] (fun _ ws => ws) (fun _ zs => zs) := kbn_of F_law_plain fun _ _ _ _ _ _ ws hl => match ws, hl with | [_], _ => rfl
  have O_law_plain : Own P w K mg base 7 "_law_plain" ["store"] (sp_law_plain) := Own.mk' F_law_plain (ok_law_plain (k := 6) F_law_plain T (O_law_take.up (by decide)) (O_law_pick.up (by decide)) (O_law_atom.up (by decide))) g_law_plain b_law_plain kb_law_plain
  obtain ⟨fd_law_bend_atom, FD_law_bend_atom⟩ := c.def_ 14 (d := d_law_bend_atom) rfl
  have F_law_bend_atom : Fun K "_law_bend_atom" "_law_bend_atom" s_law_bend_atom (He.fAd K d_law_bend_atom.at_) fd_law_bend_atom := fun_of FD_law_bend_atom
  have g_law_bend_atom : mg "_law_bend_atom" = some (.ref (He.fAd K d_law_bend_atom.at_)) := He.glo_ok X G (c.fact 14 (f := .glo "_law_bend_atom") rfl)
  have b_law_bend_atom : Binds K fd_law_bend_atom ["store", "value"] [] := FD_law_bend_atom.bindsN fun _ _ _ _ _ _ us hl => match us, hl with | [_, _], _ => rfl
  have kb_law_bend_atom : KBn K fd_law_bend_atom ["store", "value"] 0 ["store", "value"] (fun _ ws => ws) (fun _ zs => zs) := kbn_of F_law_bend_atom fun _ _ _ _ _ _ ws hl => match ws, hl with | [_, _], _ => rfl
  have O_law_bend_atom : Own P w K mg base 4 "_law_bend_atom" ["store", "value"] (sp_law_bend_atom) := Own.mk' F_law_bend_atom (ok_law_bend_atom (k := 3) F_law_bend_atom T (O_law_pick.up (by decide))) g_law_bend_atom b_law_bend_atom kb_law_bend_atom
  obtain ⟨fd_law_bend_row, FD_law_bend_row⟩ := c.def_ 13 (d := d_law_bend_row) rfl
  have F_law_bend_row : Fun K "_law_bend_row" "_law_bend_row" s_law_bend_row (He.fAd K d_law_bend_row.at_) fd_law_bend_row := fun_of FD_law_bend_row
  have g_law_bend_row : mg "_law_bend_row" = some (.ref (He.fAd K d_law_bend_row.at_)) := He.glo_ok X G (c.fact 13 (f := .glo "_law_bend_row") rfl)
  have b_law_bend_row : Binds K fd_law_bend_row ["store", "paper"] [] := FD_law_bend_row.bindsN fun _ _ _ _ _ _ us hl => match us, hl with | [_, _], _ => rfl
  have kb_law_bend_row : KBn K fd_law_bend_row ["store", "paper"] 0 ["store", "paper"] (fun _ ws => ws) (fun _ zs => zs) := kbn_of F_law_bend_row fun _ _ _ _ _ _ ws hl => match ws, hl with | [_, _], _ => rfl
  have O_law_bend_row : Own P w K mg base 72 "_law_bend_row" ["store", "paper"] (sp_law_bend_row 71) := Own.mk' F_law_bend_row (ok_law_bend_row (k := 71) F_law_bend_row T ((O_law_copy 71).up (by decide)) (O_law_take.up (by decide)) (O_law_pick.up (by decide))) g_law_bend_row b_law_bend_row kb_law_bend_row
  obtain ⟨fd_law_bend, FD_law_bend⟩ := c.def_ 12 (d := d_law_bend) rfl
  have F_law_bend : Fun K "_law_bend" "_law_bend" s_law_bend (He.fAd K d_law_bend.at_) fd_law_bend := fun_of FD_law_bend
  have g_law_bend : mg "_law_bend" = some (.ref (He.fAd K d_law_bend.at_)) := He.glo_ok X G (c.fact 12 (f := .glo "_law_bend") rfl)
  have b_law_bend : Binds K fd_law_bend ["store", "paper"] [] := FD_law_bend.bindsN fun _ _ _ _ _ _ us hl => match us, hl with | [_, _], _ => rfl
  have kb_law_bend : KBn K fd_law_bend ["store", "paper"] 0 ["store", "paper"] (fun _ ws => ws) (fun _ zs => zs) := kbn_of F_law_bend fun _ _ _ _ _ _ ws hl => match ws, hl with | [_, _], _ => rfl
  have O_law_bend : ∀ n : Nat, Own P w K mg base (72 + n) "_law_bend" ["store", "paper"] (sp_law_bend n) := fun n => by
      induction n with
      | zero => exact Own.mk' F_law_bend (FnOk.never fun vs H Q E h => by
          obtain ⟨S, s, x, d, L, m, rfl, hS, hd, hD, hm, hm2, hL1, hL2, q⟩ := h
          omega) g_law_bend b_law_bend kb_law_bend
      | succ n ih => exact Own.mk' F_law_bend (ok_law_bend (k := 72 + n) F_law_bend T (O_law_bend_atom.up (by omega)) (O_law_take.up (by omega)) (O_law_bend_row.up (by omega)) ((O_law_copy 71).up (by omega)) ih) g_law_bend b_law_bend kb_law_bend
  obtain ⟨fd_law_is_name, FD_law_is_name⟩ := c.def_ 15 (d := d_law_is_name) rfl
  have F_law_is_name : Fun K "_law_is_name" "_law_is_name" s_law_is_name (He.fAd K d_law_is_name.at_) fd_law_is_name := fun_of FD_law_is_name
  have g_law_is_name : mg "_law_is_name" = some (.ref (He.fAd K d_law_is_name.at_)) := He.glo_ok X G (c.fact 15 (f := .glo "_law_is_name") rfl)
  have b_law_is_name : Binds K fd_law_is_name ["value"] [] := FD_law_is_name.bindsN fun _ _ _ _ _ _ us hl => match us, hl with | [_], _ => rfl
  have kb_law_is_name : KBn K fd_law_is_name ["value"] 0 ["value"] (fun _ ws => ws) (fun _ zs => zs) := kbn_of F_law_is_name fun _ _ _ _ _ _ ws hl => match ws, hl with | [_], _ => rfl
  have O_law_is_name : Own P w K mg base 1 "_law_is_name" ["value"] (sp_law_is_name) := Own.mk' F_law_is_name (ok_law_is_name (k := 0) F_law_is_name T ) g_law_is_name b_law_is_name kb_law_is_name
  obtain ⟨fd_law_word, FD_law_word⟩ := c.def_ 16 (d := d_law_word) rfl
  have F_law_word : Fun K "_law_word" "_law_word" s_law_word (He.fAd K d_law_word.at_) fd_law_word := fun_of FD_law_word
  have g_law_word : mg "_law_word" = some (.ref (He.fAd K d_law_word.at_)) := He.glo_ok X G (c.fact 16 (f := .glo "_law_word") rfl)
  have b_law_word : Binds K fd_law_word ["store", "size"] [] := FD_law_word.bindsN fun _ _ _ _ _ _ us hl => match us, hl with | [_, _], _ => rfl
  have kb_law_word : KBn K fd_law_word ["store", "size"] 0 ["store", "size"] (fun _ ws => ws) (fun _ zs => zs) := kbn_of F_law_word fun _ _ _ _ _ _ ws hl => match ws, hl with | [_, _], _ => rfl
  have O_law_word : Own P w K mg base 4 "_law_word" ["store", "size"] (sp_law_word) := Own.mk' F_law_word (ok_law_word (k := 3) F_law_word T (O_law_pick.up (by decide))) g_law_word b_law_word kb_law_word
  obtain ⟨fd_law_no_name, FD_law_no_name⟩ := c.def_ 17 (d := d_law_no_name) rfl
  have F_law_no_name : Fun K "_law_no_name" "_law_no_name" s_law_no_name (He.fAd K d_law_no_name.at_) fd_law_no_name := fun_of FD_law_no_name
  have g_law_no_name : mg "_law_no_name" = some (.ref (He.fAd K d_law_no_name.at_)) := He.glo_ok X G (c.fact 17 (f := .glo "_law_no_name") rfl)
  have b_law_no_name : Binds K fd_law_no_name ["store"] [] := FD_law_no_name.bindsN fun _ _ _ _ _ _ us hl => match us, hl with | [_], _ => rfl
  have kb_law_no_name : KBn K fd_law_no_name ["store"] 0 ["store"] (fun _ ws => ws) (fun _ zs => zs) := kbn_of F_law_no_name fun _ _ _ _ _ _ ws hl => match ws, hl with | [_], _ => rfl
  have O_law_no_name : Own P w K mg base 5 "_law_no_name" ["store"] (sp_law_no_name) := Own.mk' F_law_no_name (ok_law_no_name (k := 4) F_law_no_name T (O_law_take.up (by decide)) (O_law_pick.up (by decide)) (O_law_word.up (by decide))) g_law_no_name b_law_no_name kb_law_no_name
  obtain ⟨fd_law_bad_name, FD_law_bad_name⟩ := c.def_ 18 (d := d_law_bad_name) rfl
  have F_law_bad_name : Fun K "_law_bad_name" "_law_bad_name" s_law_bad_name (He.fAd K d_law_bad_name.at_) fd_law_bad_name := fun_of FD_law_bad_name
  have g_law_bad_name : mg "_law_bad_name" = some (.ref (He.fAd K d_law_bad_name.at_)) := He.glo_ok X G (c.fact 18 (f := .glo "_law_bad_name") rfl)
  have b_law_bad_name : Binds K fd_law_bad_name ["store"] [] := FD_law_bad_name.bindsN fun _ _ _ _ _ _ us hl => match us, hl with | [_], _ => rfl
  have kb_law_bad_name : KBn K fd_law_bad_name ["store"] 0 ["store"] (fun _ ws => ws) (fun _ zs => zs) := kbn_of F_law_bad_name fun _ _ _ _ _ _ ws hl => match ws, hl with | [_], _ => rfl
  have O_law_bad_name : Own P w K mg base 6 "_law_bad_name" ["store"] (sp_law_bad_name) := Own.mk' F_law_bad_name (ok_law_bad_name (k := 5) F_law_bad_name T (O_law_take.up (by decide)) (O_law_no_name.up (by decide)) (O_law_word.up (by decide)) (O_law_pick.up (by decide))) g_law_bad_name b_law_bad_name kb_law_bad_name
  obtain ⟨fd_law_value, FD_law_value⟩ := c.def_ 19 (d := d_law_value) rfl
  have F_law_value : Fun K "_law_value" "_law_value" s_law_value (He.fAd K d_law_value.at_) fd_law_value := fun_of FD_law_value
  have g_law_value : mg "_law_value" = some (.ref (He.fAd K d_law_value.at_)) := He.glo_ok X G (c.fact 19 (f := .glo "_law_value") rfl)
  have b_law_value : Binds K fd_law_value ["store"] [] := FD_law_value.bindsN fun _ _ _ _ _ _ us hl => match us, hl with | [_], _ => rfl
  have kb_law_value : KBn K fd_law_value ["store"] 0 ["store"] (fun _ ws => ws) (fun _ zs => zs) := kbn_of F_law_value fun _ _ _ _ _ _ ws hl => match ws, hl with | [_], _ => rfl
  have O_law_value : Own P w K mg base 143 "_law_value" ["store"] (sp_law_value) := Own.mk' F_law_value (ok_law_value (k := 142) F_law_value T (O_law_take.up (by decide)) (O_law_word.up (by decide)) (O_law_no_name.up (by decide)) (O_law_bad_name.up (by decide)) (O_law_string.up (by decide)) (O_law_plain.up (by decide)) ((O_law_bend 70).up (by decide)) (O_law_pick.up (by decide))) g_law_value b_law_value kb_law_value
  obtain ⟨fd_law_told, FD_law_told⟩ := c.def_ 20 (d := d_law_told) rfl
  have F_law_told : Fun K "_law_told" "_law_told" s_law_told (He.fAd K d_law_told.at_) fd_law_told := fun_of FD_law_told
  have g_law_told : mg "_law_told" = some (.ref (He.fAd K d_law_told.at_)) := He.glo_ok X G (c.fact 20 (f := .glo "_law_told") rfl)
  have b_law_told : Binds K fd_law_told ["value", "due"] [] := FD_law_told.bindsN fun _ _ _ _ _ _ us hl => match us, hl with | [_, _], _ => rfl
  have kb_law_told : KBn K fd_law_told ["value", "due"] 0 ["value", "due"] (fun _ ws => ws) (fun _ zs => zs) := kbn_of F_law_told fun _ _ _ _ _ _ ws hl => match ws, hl with | [_, _], _ => rfl
  have O_law_told : Own P w K mg base 72 "_law_told" ["value", "due"] (sp_law_told) := Own.mk' F_law_told (ok_law_told (k := 71) F_law_told T ((O_law_copy 71).up (by decide)) ((O_law_same 71).up (by decide)) (O_is_name.up (by decide))) g_law_told b_law_told kb_law_told
  obtain ⟨fd_law_swept, FD_law_swept⟩ := c.def_ 21 (d := d_law_swept) rfl
  have F_law_swept : Fun K "_law_swept" "_law_swept" s_law_swept (He.fAd K d_law_swept.at_) fd_law_swept := fun_of FD_law_swept
  have g_law_swept : mg "_law_swept" = some (.ref (He.fAd K d_law_swept.at_)) := He.glo_ok X G (c.fact 21 (f := .glo "_law_swept") rfl)
  have b_law_swept : Binds K fd_law_swept ["word", "at"] [] := FD_law_swept.bindsN fun _ _ _ _ _ _ us hl => match us, hl with | [_, _], _ => rfl
  have kb_law_swept : KBn K fd_law_swept ["word", "at"] 0 ["word", "at"] (fun _ ws => ws) (fun _ zs => zs) := kbn_of F_law_swept fun _ _ _ _ _ _ ws hl => match ws, hl with | [_, _], _ => rfl
  have O_law_swept : Own P w K mg base 73 "_law_swept" ["word", "at"] (sp_law_swept) := Own.mk' F_law_swept (ok_law_swept (k := 72) F_law_swept T (O_law_told.up (by decide))) g_law_swept b_law_swept kb_law_swept
  obtain ⟨fd_law, FD_law⟩ := c.def_ 22 (d := d_law) rfl
  have F_law : Fun K "law" "law" s_law (He.fAd K d_law.at_) fd_law := fun_of FD_law
  have LAW : FnOk P w K mg base CX0 144 (He.fAd K d_law.at_) fd_law ["script"] (sp_law K) := ok_law (k := 143) F_law T (O_law_store.up (by decide)) (O_law_value.up (by decide)) (O_law_told.up (by decide)) (O_law_is_name.up (by decide)) (O_law_word.up (by decide)) (O_law_take.up (by decide)) (O_law_swept.up (by decide))
  have e2 : fd0 = fd_law := by
    obtain ⟨_, _, _, _, _, _, _, _, _, _, _, l1, _⟩ := F0.ex
    obtain ⟨_, _, _, _, _, _, _, _, _, _, _, l2, _⟩ := FD_law.ex
    rw [l1] at l2
    injection l2 with l2
    injection l2 with _ _ l2 _
    injection l2
  rw [e2]
  exact LAW
end Pf
open PySem PySem.W PySem.Calls PyProof.Rows
set_option maxRecDepth 100000 in
set_option maxHeartbeats 0 in
theorem PySem.Challenge.cw_levelgifts_k00_names_holds : PySem.Challenge.rw_levelgifts_k00_names.Holds := by
  w_on; o_law
  refine HandSHeadRun.head_any (r := OpenLaw.row PySem.Challenge.rw_levelgifts_k00_names) (q := view (OpenLaw.row PySem.Challenge.rw_levelgifts_k00_names).prog [27]) (H := Pf.hk) (ob := Pf.ob) (M := 4000) (loose := Pf.loose) (d := HandSHeadRun.topDef (OpenLaw.row PySem.Challenge.rw_levelgifts_k00_names).prog 27) (kwd := []) Pf.ob_eq
    (by kernel_rfl) (fun s => by kernel_rfl) Pf.run (by kernel_rfl) (by kernel_rfl) (by kernel_rfl) (by rfl) (by first | assumption | decide +kernel) (by decide +kernel) ⟨rfl, rfl, rfl, rfl, rfl, by decide +kernel⟩ ?hw ?hc
  case hw => w_witness2
  case hc =>
    refine L2.walk_ofE (l := PySem.Challenge.rw_levelgifts_k00_names) (n := 63) (k := 144) (x := "script") (CX := L2.CX0) rfl (by decide) (by kernel_rfl) ⟨rfl, by decide, by decide⟩ ?F (fun _ _ _ _ z => z)
    intro w mg fa h Y G hmg0
    obtain ⟨K, KX, c⟩ := Y
    have hmg : mg ("law" : PySem.Str) = some (.ref fa) := by
      have e : (HandSHeadRun.topDef (OpenLaw.row PySem.Challenge.rw_levelgifts_k00_names).prog 27).name = ("law" : PySem.Str) := by kernel_rfl
      rw [← e]
      exact hmg0
    obtain ⟨fd, hb, hF⟩ := Pf.facts (P := (PySem.Challenge.rw_levelgifts_k00_names).prog) (w := w) KX G hmg c
    exact ⟨K, fd, Pf.sp_law K, KX, hb, fun H a ns hl _ hS => ⟨a, ns, rfl, hS, hl, fun _ => rfl⟩, hF⟩
