import PyProof.Rows.All
import Wide.All
import OpenK.AllK
import Wide.FinOn
import HandS.GenList
import HandS.AnyAll
import HandS.EndOwn
import HandS.ForMost
import HandS.ForExc
import HandS.IsInst
import HandS.TupAny
import HandS.Wide
import HandS.Style
import HandS.Small
import HandS.Flow
import HandS.Replace
import HandS.Codes
import HandS.TupMul
import HandS.Rev
import HandS.MapObj
import HandS.MapJoin
import HandS.Zip
import HandS.SetFor
import HandS.Strs
import KE.KExcSuper
import HandS.Walk
import KE.KExcLine
import PySem.Challenge.RW_snapshelf_k18_blocks
set_option Elab.async false
set_option linter.all false
set_option maxRecDepth 100000
set_option maxHeartbeats 2000000
namespace GX
open PySem PySem.Spec PyProof.Rows L2 GenW

/-- the frame of a generator expression that is woken by a builtin of this def -/
def gcx (X : Cx) (cenv : Env) (N : List Str) (s4 : Shared) (H4 : Hp) (fp : List Addr) (pn : List (Addr × Obj)) : Cx :=
  { prog := X.prog, w := X.w, K := X.K, mg := X.mg, base := X.base, A := X.A.in1.in1.deeper cenv, N := N, s_0 := s4, H_0 := H4, env := cenv, outer := X.stack, stack := cenv :: X.stack, ex := fp, fn := fun _ => false, calm := true, pn := pn, xe := fun _ _ => False }

theorem clo_nil {cells : List (Str × Addr)} : ∀ {names : List (Str × NameKind)}, (∀ y ∈ names, y.2 ≠ .free) → cloFrom cells names [] = []
  | [], _ => rfl
  | (n, k) :: r, h => by
    unfold cloFrom
    have hk : ¬ (k == NameKind.free) = true := by
      have := h (n, k) List.mem_cons_self
      simpa using this
    rw [if_neg hk]
    exact clo_nil fun y hy => h y (List.mem_cons_of_mem _ hy)

/-- the scope of a generator expression that captures nothing -/
structure GScp (scope : Scope) : Prop where
  kind : scope.kind = .function
  co : scope.isCoroutine = false
  cell : ∀ y ∈ scope.names, y.2 ≠ .cell
  free : ∀ y ∈ scope.names, y.2 ≠ .free
  dot : scope.names.lookup (".0" : Str) = some NameKind.local

def Slp (s s' : Shared) : Prop := s'.os = s.os ∧ AllBare s'.gens ∧ ∀ b o, s.heap.get? b = some o → s'.heap.get? b = some o
def tau0 (N : List Str) : L2.St := N.map fun _ => none

/-- what is known where the generator stands at turn i -/
def At (Xg : Cx) (fp : List Addr) (tn : Nat → Heap → Prop) (i : Nat) (H : Hp) (s : Shared) : Prop :=
  Inv Xg [] (tau0 Xg.N) H s ∧ tn i s.heap ∧ ∀ b ∈ fp, H b = none
theorem At.slp {Xg : Cx} {fp : List Addr} {tn : Nat → Heap → Prop} {i : Nat} {H : Hp} {s s' : Shared} (hk : ∀ i h h', tn i h → (∀ b ∈ fp, ∀ o, h.get? b = some o → h'.get? b = some o) → tn i h') (h : At Xg fp tn i H s) (z : Slp s s') : At Xg fp tn i H s' := by
  obtain ⟨I, st, fr⟩ := h
  exact ⟨I.call' (ch := []) z.1 (Un.kept z.2.2) (I.hok.kept z.2.2) z.2.1 (fun b hb => by simp at hb), hk _ _ _ st fun b _ o e => z.2.2 b o e, fr⟩
theorem inv_forget {X : Cx} {pins : List (Addr × Obj)} {σ : L2.St} {H : Hp} {s : Shared} (I : Inv X pins σ H s) : Inv X pins (tau0 X.N) H s :=
  I.weak (by rw [I.len]; simp [tau0]) fun i v e => by
    unfold tau0 at e
    rw [List.getElem?_map] at e
    cases q : X.N[i]? with
    | none => rw [q] at e; cases e
    | some y => rw [q] at e; cases e

def RX (Xg : Cx) (fp : List Addr) (Endp : Hp → Prop) : GenEnd := fun n s₀ r s => ((r = .ok (.ret .none) ∨ r = .ok .next) ∧ ∃ H, Inv Xg [] (tau0 Xg.N) H s ∧ Endp H) ∨ ∃ e, r = .error e ∧ False
def YX (Xg : Cx) (fp : List Addr) (tn : Nat → Heap → Prop) (len : Nat) (W : Nat → Hp → Prop) (Yp : Nat → V → Hp → Prop) : Protocol := fun n s₀ v s kap =>
  ∃ i y H, n + 1 + i = len ∧ RelV y v ∧ At Xg fp tn (i + 1) H s ∧ Yp i y H ∧ (W (i + 1) H → ∀ s', Slp s s' → kap (.send .none) s')

section
variable {X : Cx} {scope : Scope} {cenv : Env} {N : List Str} {s4 : Shared} {H4 : Hp} {fp : List Addr} {pn : List (Addr × Obj)} {tg elt iter : Expr} {pos : Pos} {it : Addr} {tn : Nat → Heap → Prop} {J : It} {len : Nat} {W : Nat → Hp → Prop} {Yp : Nat → V → Hp → Prop} {Endp : Hp → Prop} {g : TG} {te : TE}

theorem seg_gx (hco : cenv.scope.isCoroutine = false) (T : Turn X.prog X.w X.K tg J fp it tn) (hfp : ∀ H, (∀ b ∈ fp, H b = none) → ∀ b ∈ fp, FpOk (gcx X cenv N s4 H4 fp pn) [] H b)
    (hg : PG (gcx X cenv N s4 H4 fp pn) tg g) (he : PE (gcx X cenv N s4 H4 fp pn) elt te)
    (hW : ∀ i H, W i H → i ≤ len ∧ ((J.stop i H ∧ Endp H) ∨ (i < len ∧ J.go i H ∧ ∀ x H', J.yld i H x H' → g x (tau0 N) H' fun τ2 H2 => te τ2 H2 fun y H3 => Yp i y H3))) :
    ∀ (k i : Nat) (s₀ s : Shared) (H : Hp), len - i = k → At (gcx X cenv N s4 H4 fp pn) fp tn i H s → W i H →
      Seg (model X.prog X.w) X.A.in1.in1 (RX (gcx X cenv N s4 H4 fp pn) fp Endp) (YX (gcx X cenv N s4 H4 fp pn) fp tn len W Yp) (len - i) s₀
        (.compLoop (.GeneratorExp elt [⟨tg, iter, [], 0⟩] scope pos) 0 (.ref it) .none cenv)
        ((model X.prog X.w).den (.compLoop (.GeneratorExp elt [⟨tg, iter, [], 0⟩] scope pos) 0 (.ref it) .none cenv)) [] s := by
  have hov : X.A.in1.in1.over (.compLoop (.GeneratorExp elt [⟨tg, iter, [], 0⟩] scope pos) 0 (.ref it) .none cenv) [] = (gcx X cenv N s4 H4 fp pn).A := rfl
  intro k
  induction k with
  | zero =>
    intro i s₀ s H hk hA w
    obtain ⟨hil, hc⟩ := hW i H w
    obtain ⟨stop, hE⟩ : J.stop i H ∧ Endp H := by
      rcases hc with hc | ⟨hlt, _⟩
      · exact hc
      · omega
    obtain ⟨I, st, fr⟩ := hA
    show Seg _ X.A.in1.in1 _ _ _ s₀ _ ((compTurn (.GeneratorExp elt [⟨tg, iter, [], 0⟩] scope pos) 0 (.ref it) .none cenv).onRaise (leaving cenv)) [] s
    rw [compTurn_gen, Sem.onRaise_eq_wrap]
    refine seg_bind_wrap (wpAny_standAt ?_)
    refine seg_bind_wrap ?_
    rw [hov]
    refine thn (T.done (gcx X cenv N s4 H4 fp pn) rfl rfl rfl rfl i [] s (tau0 N) H _ I (hfp H fr) st stop) fun r s1 ⟨hr, I1⟩ => ?_
    subst hr
    exact seg_end (.ok .next) (.inl ⟨.inr rfl, H, I1, hE⟩)
  | succ k ih =>
    intro i s₀ s H hk hA w
    obtain ⟨hil, hc⟩ := hW i H w
    obtain ⟨I, st, fr⟩ := hA
    show Seg _ X.A.in1.in1 _ _ _ s₀ _ ((compTurn (.GeneratorExp elt [⟨tg, iter, [], 0⟩] scope pos) 0 (.ref it) .none cenv).onRaise (leaving cenv)) [] s
    rw [compTurn_gen, Sem.onRaise_eq_wrap]
    refine seg_bind_wrap (wpAny_standAt ?_)
    refine seg_bind_wrap ?_
    rw [hov]
    rcases hc with ⟨stop, hE⟩ | ⟨hlt, go, step⟩
    · refine thn (T.done (gcx X cenv N s4 H4 fp pn) rfl rfl rfl rfl i [] s (tau0 N) H _ I (hfp H fr) st stop) fun r s1 ⟨hr, I1⟩ => ?_
      subst hr
      exact seg_end (.ok .next) (.inl ⟨.inr rfl, H, I1, hE⟩)
    · refine thn (T.item (gcx X cenv N s4 H4 fp pn) rfl rfl rfl rfl i [] s (tau0 N) H _ I (hfp H fr) st go) fun r s1 ⟨u, hr, h1⟩ => ?_
      subst hr
      refine seg_bind_wrap ?_
      rw [hov]
      refine thn h1 fun _ s2 ⟨x, H', I2, r2, y2, st2, fr2⟩ => ?_
      have I2' := I2.pinned (hfp H' fr2) (T.obj _ _ st2)
      refine seg_bind_wrap ?_
      rw [hov]
      refine wpAny_mono (hg.run _ s2 _ H' x u _ I2' r2 (step x H' y2)) (fun _ s3 ⟨τ3, H3, I3, q3⟩ => ?_) fun _ _ e => (show False from e).elim
      refine seg_bind_wrap (wpAny_of_eq (a := true) (by first | rfl | exact List.forIn_nil ..) ?_)
      simp only [if_true]
      have hy : ∀ v, yieldOut cenv v = yieldValue v := fun v => by simp only [yieldOut, hco, Bool.false_eq_true, if_false]
      simp only [hy]
      rw [Sem.bind_eq_wrap', Sem.bind_eq_wrap', Sem.wrap_wrap, Sem.wrap_wrap]
      refine seg_wrap ?_
      rw [hov]
      refine wpAny_mono (he.run _ s3 τ3 H3 _ I3 q3) (fun v s5 h5 => ?_) fun _ _ e => (show False from e).elim
      obtain ⟨y, H5, I5, r5, q5⟩ := h5
      have A5 : At (gcx X cenv N s4 H4 fp pn) fp tn (i + 1) H5 s5 := by
        refine ⟨inv_forget (I5.unpinned (pins := [])), T.keep _ _ _ st2 fun b hb o e => (I5.pin (b, o) (List.mem_append_right _ (List.mem_append_right _ (mem_pinsAt hb e)))).1, fun b hb => ?_⟩
        obtain ⟨o, e, d⟩ := T.obj _ _ st2 b hb
        exact (I5.pin (b, o) (List.mem_append_right _ (List.mem_append_right _ (mem_pinsAt hb e)))).2.1
      have hl : len - i = (len - (i + 1)) + 1 := by omega
      rw [hl]
      refine seg_at (seg_yield rfl rfl rfl ⟨i, y, H5, by omega, r5, A5, q5, fun w1 s'' hz => ?_⟩)
      exact seg_again rfl (ih (i + 1) s'' s'' H5 (by omega) (A5.slp T.keep hz) w1)

theorem seg_gs (hco : cenv.scope.isCoroutine = false) (T : Turn X.prog X.w X.K tg J fp it tn) (hfp : ∀ H, (∀ b ∈ fp, H b = none) → ∀ b ∈ fp, FpOk (gcx X cenv N s4 H4 fp pn) [] H b)
    (hg : PG (gcx X cenv N s4 H4 fp pn) tg g) (he : PE (gcx X cenv N s4 H4 fp pn) elt te)
    (hW : ∀ i H, W i H → i ≤ len ∧ ((J.stop i H ∧ Endp H) ∨ (i < len ∧ J.go i H ∧ ∀ x H', J.yld i H x H' → g x (tau0 N) H' fun τ2 H2 => te τ2 H2 fun y H3 => Yp i y H3)))
    (s₀ s : Shared) (H : Hp) (hA : At (gcx X cenv N s4 H4 fp pn) fp tn 0 H s) (w : W 0 H) :
      Seg (model X.prog X.w) X.A.in1.in1 (RX (gcx X cenv N s4 H4 fp pn) fp Endp) (YX (gcx X cenv N s4 H4 fp pn) fp tn len W Yp) len s₀
        (.compStart (.GeneratorExp elt [⟨tg, iter, [], 0⟩] scope pos) 0 (.ref it) .none cenv)
        ((model X.prog X.w).den (.compStart (.GeneratorExp elt [⟨tg, iter, [], 0⟩] scope pos) 0 (.ref it) .none cenv)) [] s := by
  have loop := seg_gx (iter := iter) (scope := scope) (pos := pos) hco T hfp hg he hW len 0 s₀ s H (Nat.sub_zero _) hA w
  rw [Nat.sub_zero] at loop
  show Seg _ X.A.in1.in1 _ _ _ s₀ _ ((compStart (.GeneratorExp elt [⟨tg, iter, [], 0⟩] scope pos) 0 (.ref it) .none cenv).onRaise (leaving cenv)) [] s
  unfold compStart
  rw [Sem.onRaise_eq_wrap]
  show Seg _ X.A.in1.in1 _ _ _ s₀ _ ((ask >>= _).wrap _ _ _ _) [] s
  refine seg_bind_wrap (wpAny_askSetting ?_)
  split
  · exact seg_again rfl loop
  · first
      | exact seg_bind_wrap (wpAny_rule (seg_bind_wrap (wpAny_standAt (seg_bind_wrap (T.self _ 0 s _ _ hA.2.1 (seg_again rfl loop))))))
      | (refine seg_bind_wrap (wpAny_rule ?_); show Seg _ X.A.in1.in1 _ _ _ s₀ _ ((standAt iter.pos >>= _).wrap _ _ _ _) [] s; exact seg_bind_wrap (wpAny_standAt (seg_bind_wrap (T.self _ 0 s _ _ hA.2.1 (seg_again rfl loop)))))
end

/-- the generator at a stands ready, with so many turns at most -/
def Goer (X Xg : Cx) (fp : List Addr) (tn : Nat → Heap → Prop) (len : Nat) (W : Nat → Hp → Prop) (Yp : Nat → V → Hp → Prop) (Endp : Hp → Prop) (a : Addr) (gn : Nat) (m : Nat) (s : Shared) : Prop :=
  s.heap.IsGen a gn ∧ s.heap.NoLimit ∧ ∃ gs, s.gens[gn]? = some gs ∧ gs.Goes (model X.prog X.w) X.A.in1.in1 (RX Xg fp Endp) (YX Xg fp tn len W Yp) m (.send .none) (s.setGen gn .running)

section
variable {X Xg : Cx} {fp : List Addr} {tn : Nat → Heap → Prop} {len : Nat} {W : Nat → Hp → Prop} {Yp : Nat → V → Hp → Prop} {Endp : Hp → Prop} {a : Addr} {gn : Nat}
/-- one turn of what walks it -/
theorem next_gx {m : Nat} {s : Shared} {Q : Option Value → Shared → Prop} {E : Value → Shared → Prop} (hh : X.A.handled = none) (hd : X.A.depth < recursionLimit) (hpin : ∀ H s, Inv Xg [] (tau0 Xg.N) H s → s.heap.IsGen a gn ∧ s.heap.NoLimit)
    (G : Goer X Xg fp tn len W Yp Endp a gn m s)
    (hstop : ∀ H s1, Inv Xg [] (tau0 Xg.N) H s1 → Endp H → Q none s1)
    (hyld : ∀ i y H v s1, RelV y v → Inv Xg [] (tau0 Xg.N) H s1 → Yp i y H → (W (i + 1) H → ∃ m', m = m' + 1 ∧ Goer X Xg fp tn len W Yp Endp a gn m' s1) → Q (some v) s1) :
    wpAny (model X.prog X.w) X.A.in1 (pyNext (.ref a)) Q E s := by
  obtain ⟨hg, hl, gs, hgs, hgo⟩ := G
  have hgl : gn < s.gens.size := (Array.getElem?_eq_some_iff.mp hgs).1
  have fromSet : ∀ {H : Hp} {s1 : Shared} {x : GenState}, x.bare = true → Inv Xg [] (tau0 Xg.N) H s1 → Inv Xg [] (tau0 Xg.N) H (s1.setGen gn x) := fun {H s1 x} hx I =>
    I.call' (s' := s1.setGen gn x) (ch := []) rfl (Un.kept fun _ _ e => e) I.hok (allBare_setGen I.bare hx) (fun b hb => by simp at hb)
  refine wpAny_gsz (n := gn + 1) hgl ?_
  refine next_genG (F := fun n s₀ s₁ => ∃ H, Inv Xg [] (tau0 Xg.N) H s₁ ∧ Endp H) (Er := fun _ _ => False) (A := X.A.in1) (g := gn) hh hl hd hg hgs ?_ (fun v s₁ gs' hbare hv => ?_) (fun s₁ hp h' hk => ?_) (fun e s₁ he => he.elim)
    (Y := YX Xg fp tn len W Yp) (n := m)
  · exact hgo
  · obtain ⟨i, y, H, h1, h2, h3, h4, h5⟩ := hv
    intro hsz
    have hsz1 : gn < s₁.gens.size := by
      have q : (s₁.setGen gn gs').gens.size = s₁.gens.size := setGen_size _ _ _
      have hsz' : gn + 1 ≤ (s₁.setGen gn gs').gens.size := hsz
      omega
    refine hyld i y H v _ h2 (fromSet hbare h3.1) h4 fun w => ?_
    have h6 := h5 w ((s₁.setGen gn gs').setGen gn .running) ⟨rfl, allBare_setGen (s := s₁.setGen gn gs') (allBare_setGen h3.1.bare hbare) rfl, fun _ _ e => e⟩
    cases m with
    | zero => exact h6.elim
    | succ m' =>
      refine ⟨m', rfl, (hpin _ _ h3.1).1, (hpin _ _ h3.1).2, gs', setGen_at hsz1, ?_⟩
      exact h6
  · obtain ⟨H, I1, hE⟩ := hp
    intro hsz
    have I2 := fromSet (x := .finished) rfl I1
    exact hstop H _ (I2.call' (s' := { s₁.setGen gn .finished with heap := h' }) (ch := []) rfl (Un.kept hk) (I2.hok.kept hk) I2.bare (fun b hb => by simp at hb)) hE

theorem all_gx {R : Result → Shared → Prop} (hh : X.A.handled = none) (hd : X.A.depth < recursionLimit) (hpin : ∀ H s, Inv Xg [] (tau0 Xg.N) H s → s.heap.IsGen a gn ∧ s.heap.NoLimit)
    (hT : ∀ H s1, Inv Xg [] (tau0 Xg.N) H s1 → Endp H → R (.ok (.ret (.bool true))) s1)
    (hY : ∀ i y H, Yp i y H → ∃ b, y = .bl b ∧ (b = true → W (i + 1) H) ∧ (b = false → ∀ s1, Inv Xg [] (tau0 Xg.N) H s1 → R (.ok (.ret (.bool false))) s1)) :
    ∀ (m : Nat) (s : Shared), Goer X Xg fp tn len W Yp Endp a gn m s → codeAny (model X.prog X.w) X.A (.builtin "all.loop" ⟨[.ref a], []⟩) R s := by
  intro m
  induction m with
  | zero =>
    intro s G
    refine codeAny_builtin F.entry_all_loop ?_
    rw [Around.under_plainId F.plain_all_loop _]
    show wpAny _ X.A.in1 (pyNext (.ref a) >>= _) _ _ s
    refine wpAny_bind (next_gx hh hd hpin G (fun H s1 I1 hE => ?_) fun i y H v s1 rv I1 hy hw => ?_)
    · exact wpAny_bind (wpAny_rule (wpAny_pure (hT H s1 I1 hE)))
    · obtain ⟨b, rfl, h1, h2⟩ := hY i y H hy
      cases rv
      refine wpAny_bind (wpAny_holding (wpAny_truthy_bool ?_))
      refine wpAny_bind (wpAny_letGo ?_)
      cases b with
      | true =>
        obtain ⟨m', e, _⟩ := hw (h1 rfl)
        cases e
      | false =>
        simp only [Bool.false_eq_true, if_false]
        exact wpAny_bind (wpAny_rule (wpAny_pure (h2 rfl s1 I1)))
  | succ m ih =>
    intro s G
    refine codeAny_builtin F.entry_all_loop ?_
    rw [Around.under_plainId F.plain_all_loop _]
    show wpAny _ X.A.in1 (pyNext (.ref a) >>= _) _ _ s
    refine wpAny_bind (next_gx hh hd hpin G (fun H s1 I1 hE => ?_) fun i y H v s1 rv I1 hy hw => ?_)
    · exact wpAny_bind (wpAny_rule (wpAny_pure (hT H s1 I1 hE)))
    · obtain ⟨b, rfl, h1, h2⟩ := hY i y H hy
      cases rv
      refine wpAny_bind (wpAny_holding (wpAny_truthy_bool ?_))
      refine wpAny_bind (wpAny_letGo ?_)
      cases b with
      | true =>
        obtain ⟨m', e, G'⟩ := hw (h1 rfl)
        obtain rfl : m = m' := by omega
        simp only [if_true]
        exact wpAny_pure ⟨plainId_quiet F.plain_all_loop _, ih _ G'⟩
      | false =>
        simp only [Bool.false_eq_true, if_false]
        exact wpAny_bind (wpAny_rule (wpAny_pure (h2 rfl s1 I1)))
end

/-! ### the making -/
section
variable {X : Cx} {scope : Scope} {N : List Str} {tg elt iter : Expr} {gpos : Pos} {wi : TI} {g : TG} {te : TE} {c P : Addr} {k : Nat}
/-- any context that a generator expression with this scope may have, woken from X -/
def IsG (X : Cx) (scope : Scope) (N : List Str) (Xg : Cx) : Prop := ∃ cl C code s4 H4 fp pn, Xg = gcx X (genEnv scope cl C code builtinsNs X.env) N s4 H4 fp pn
theorem room_g (hr : Room (k + 1) X.A) (env : Env) : Room k (X.A.in1.in1.deeper env) :=
  ⟨hr.hd, by have := hr.dp; show X.A.depth + 1 + 3 * k + 5 < _; omega, by have := hr.un; show X.A.units + 1 + 1 + 3 + 16 * k + 200 < _; omega⟩
theorem IsG.room {Xg : Cx} (h : IsG X scope N Xg) (hr : Room (k + 1) X.A) : Room k Xg.A := by
  obtain ⟨cl, C, code, s4, H4, fp, pn, rfl⟩ := h
  exact room_g hr _

/-- a generator that is made and ready -/
structure Ready (X : Cx) (scope : Scope) (N : List Str) (tg elt iter : Expr) (gpos : Pos) (pins : List (Addr × Obj)) (σ : L2.St) (J : It) (H2 : Hp) (a : Addr) (gn : Nat) (it : Addr) (fp : List Addr) (tn : Nat → Heap → Prop) (Xg : Cx) (cenv : Env) (s5 : Shared) : Prop where
  isg : IsG X scope N Xg
  isx : ∃ s4 pn, Xg = gcx X cenv N s4 H2 fp pn
  co : cenv.scope.isCoroutine = false
  turn : Turn X.prog X.w X.K tg J fp it tn
  fpok : ∀ H, (∀ b ∈ fp, H b = none) → ∀ b ∈ fp, FpOk Xg [] H b
  at0 : At Xg fp tn 0 H2 s5
  gen : s5.gens[gn]? = some (.fresh (.compStart (.GeneratorExp elt [⟨tg, iter, [], 0⟩] scope gpos) 0 (.ref it) .none cenv))
  pin : ∀ H s, Inv Xg [] (tau0 Xg.N) H s → s.heap.IsGen a gn ∧ s.heap.NoLimit
  back : ∀ H' s', Inv Xg [] (tau0 Xg.N) H' s' → Inv X pins σ H' s'

theorem gen_made {pins : List (Addr × Obj)} {σ : L2.St} {H : Hp} {s : Shared} {Q' : Value → Shared → Prop} {R : It → Hp → Prop} (hr : Room k X.A) (TB : LamX.TabB X.base X.mg c P) (hcode : X.env.code = .ref c) (S : GScp scope) (hi : PI X tg iter wi)
    (hs : ∀ v, genFold iter X.env v = pure v) (I : Inv X pins σ H s) (h : wi σ H fun J H1 => GxR.TabG H1 P ∧ ∀ H2, GxR.Tabbed P H1 H2 → R J H2)
    (hQ : ∀ J H2 a s5 gn it fp tn Xg cenv, R J H2 → Ready X scope N tg elt iter gpos pins σ J H2 a gn it fp tn Xg cenv s5 → Q' (.ref a) s5) :
    wpAny (model X.prog X.w) X.A (eval (.GeneratorExp elt [⟨tg, iter, [], 0⟩] scope gpos) X.env) Q' X.xe s := by
  refine wpAny_GeneratorExp_make S.co (closure_ok (fun y hy e => absurd e (S.free y hy))) S.cell S.dot S.kind (by have := hr.dp; omega) ?_ hs
  refine thn (hi.run pins s σ H _ I h) fun xv s1 h1 => thn h1 fun itv s2 h2 => ?_
  obtain ⟨it, fp, tn, J, H1, rfl, I2, T, st2, f2, ⟨ps, hP, ht⟩, q1⟩ := h2
  refine ⟨I2.nolimit, ?_⟩
  have hPs : s2.heap.get? P = some { cls := .none, data := .fields ps } := I2.hok P _ hP
  have hPlt : P < s2.heap.objs.size := Heap.lt_size hPs
  have cd : PySem.W.CodeHd s2.heap c P := TB.code.keeps fun b u e => I2.bk b u e
  have cont : ∀ (code : Value) (h3 : Heap) (tk : Nat) (ps' : Array Value), Heap.ExtBut P s2.heap h3 → s2.heap.objs.size ≤ h3.objs.size → h3.get? P = some { cls := .none, data := .fields ps' } → (∃ more, ps' = ps ++ more) → TriplesOk ps'.toList →
      wpAny (model X.prog X.w) X.A (builtinsFor X.env.globals X.env.builtins) (fun bi s₄ =>
        ∀ h', h'.Ns s₄.heap.objs.size (fun y => if y = ".0" then some (.ref it) else none) → Heap.SameBut s₄.heap.objs.size (s₄.heap.push { cls := .type "frame", data := .dict #[] }) h' →
          Q' (.ref h'.objs.size) { s₄ with
            gens := s₄.gens.push (.fresh (.compStart (.GeneratorExp elt [⟨tg, iter, [], 0⟩] scope gpos) 0 (.ref it) .none (genEnv scope (cloFrom X.env.cells scope.names []) s₄.heap.objs.size code bi X.env))),
            toks := s₄.toks + 1 + 1 + 1,
            heap := h'.push { cls := .type "generator", data := .fields #[.int s₄.gens.size 0, .str "<genexpr>" (s₄.toks + 1), .str (X.env.qual ++ "<genexpr>") (s₄.toks + 1 + 1)] } }) X.xe { s2 with heap := h3, toks := tk } := by
    intro code h3 tk ps' hx hsz hP3 hmore ht3
    obtain ⟨bm, ob, e1, e2, e3, e4, e5, e6, e7, e8⟩ := TB.bm
    refine wpAny_builtinsFor (m := X.mg) (by rw [I2.ok.glob]; exact (I2.mod.glob.keeps I2.bk).extBut hx TB.gP) e1 e2 (hx _ _ e4 (I2.bk _ _ e5)) e6 e7 e8 ?_
    rw [clo_nil S.free]
    obtain ⟨more, em⟩ := hmore
    subst em
    have J4 : Inv X pins σ (upd H1 P (.tbl (ps ++ more))) { s2 with heap := h3, toks := tk } := GxR.inv_tab (g' := s2.gens) (d' := s2.drawn) I2 hP (fun b o hb e => hx b o hb e) hP3 I2.bare
    have fpP : ∀ b ∈ fp, b ≠ P := fun b hb z => by
      have := (f2 b hb).1
      rw [z, hP] at this
      cases this
    have st3 : tn 0 h3 := T.keep _ _ _ st2 fun b hb o e => hx b o (fpP b hb) e
    have f4 : ∀ b ∈ fp, upd H1 P (.tbl (ps ++ more)) b = none := fun b hb => by rw [upd_ne (fpP b hb)]; exact (f2 b hb).1
    have fplt : ∀ b ∈ fp, b < h3.objs.size := fun b hb => by
      obtain ⟨o, e, _⟩ := T.obj _ _ st3 b hb
      exact Heap.lt_size e
    have fpst : ∀ b ∈ fp, b ∉ frs X.stack := fun b hb hm => by
      rcases List.mem_cons.mp (J4.stkSub b hm) with z | z
      · exact (f2 b hb).2.1 z
      · exact (f2 b hb).2.2.1 z
    intro h' hn' hs'
    show Q' (.ref h'.objs.size) _
    have hsz' : h'.objs.size = h3.objs.size + 1 := by rw [hs'.1]; exact Heap.size_push ..
    generalize hgo : ({ cls := .type "generator", data := .fields #[.int s2.gens.size 0, .str "<genexpr>" (tk + 1), .str (X.env.qual ++ "<genexpr>") (tk + 1 + 1)] } : Obj) = go
    have keep1 : ∀ b o, h3.get? b = some o → h'.get? b = some o := fun b o e => hs'.extBut b o (Nat.ne_of_lt (Heap.lt_size e)) (Heap.get?_push_of_some _ e)
    have keep5 : ∀ b o, h3.get? b = some o → (h'.push go).get? b = some o := fun b o e => Heap.get?_push_of_some _ (keep1 b o e)
    have hgoat : (h'.push go).get? h'.objs.size = some go := by
      subst hgo
      exact Heap.get?_push_size _ rfl
    have ngo : ∀ v, go.data ≠ .cell v := fun v z => by
      subst hgo
      cases z
    have nC : ∀ b, b < h3.objs.size → b ≠ h3.objs.size := fun b hb => Nat.ne_of_lt hb
    refine hQ J _ h'.objs.size _ s2.gens.size it fp tn (gcx X (genEnv scope [] h3.objs.size code builtinsNs X.env) N { s2 with heap := h3, toks := tk } (upd H1 P (.tbl (ps ++ more))) fp [(h'.objs.size, go)]) (genEnv scope [] h3.objs.size code builtinsNs X.env)
      (q1 _ ⟨⟨ps ++ more, upd_same, ht3⟩, fun b hb => upd_ne hb⟩) ⟨⟨_, _, _, _, _, _, _, rfl⟩, ⟨_, _, rfl⟩, S.co, T, ?_, ?_, ?_, ?_, ?_⟩
    · intro H5 hn b hb
      refine ⟨hn b hb, nC b (fplt b hb), fpst b hb, .inl hb, fun y cc e => ?_, fun p hp => ?_⟩
      · cases (show ([] : List (Str × Addr)).lookup y = some cc from e)
      · rw [List.append_nil] at hp
        rw [List.mem_singleton.mp hp]
        show h'.objs.size ≠ b
        exact Nat.ne_of_gt (Nat.lt_of_lt_of_le (fplt b hb) (show h3.objs.size ≤ h'.objs.size by omega))
    · refine ⟨⟨⟨J4.ok.mod, S.kind, J4.ok.glob, rfl, Nat.le_refl _, fun y z cc e => ?_, fun y hy => ?_, fun y cc e => ?_, fun _ => hr.hd, ?_, .inr ⟨rfl, rfl⟩, fun b hb => ⟨nC b (fplt b hb), fun y cc e => ?_⟩, J4.bs, Nat.le_trans J4.ok.bsz J4.sz, fun b o e hb => ?_, fpst, J4.stack, J4.stkFree⟩,
        rfl, AllBare.push J4.bare rfl, Un.kept keep5, ⟨_, hn'.push go, fun i y v e1 e2 e3 => ?_⟩, fun y cc e => ?_, ?_, fun y cc e => ?_, fun p hp => ?_, J4.hok.kept keep5, ?_⟩, ?_, f4⟩
      · cases (show ([] : List (Str × Addr)).lookup y = some cc from e)
      · rcases hy with hy | hy
        · exact absurd rfl (S.cell _ (PySem.mem_of_lookup (show scope.names.lookup y = some .cell from hy)))
        · exact absurd rfl (S.free _ (PySem.mem_of_lookup (show scope.names.lookup y = some .free from hy)))
      · cases e
      · exact Around.frames_deeper J4.ok.frames
      · cases (show ([] : List (Str × Addr)).lookup y = some cc from e)
      · have h1 := (J4.ok.bs b o e).1
        rcases (f2 b hb).2.2.2.1 with z | z
        · exact J4.ok.noex b o e z
        · exact absurd (Nat.lt_of_lt_of_le (Heap.lt_size h1) z) (Nat.lt_irrefl _)
      · have e2' : (tau0 N)[i]? = some (some v) := e2
        unfold tau0 at e2'
        rw [List.getElem?_map] at e2'
        cases q : N[i]? with
        | none => rw [q] at e2'; cases e2'
        | some y => rw [q] at e2'; cases e2'
      · cases (show ([] : List (Str × Addr)).lookup y = some cc from e)
      · exact J4.hok.fresh (Nat.le_refl _)
      · cases (show ([] : List (Str × Addr)).lookup y = some cc from e)
      · rw [List.append_nil] at hp
        rw [List.mem_singleton.mp hp]
        have hge : h3.objs.size ≤ h'.objs.size := by omega
        refine ⟨hgoat, J4.hok.fresh hge, Nat.ne_of_gt (show h3.objs.size < h'.objs.size by omega), fun hm => ?_, ngo⟩
        rcases List.mem_cons.mp (J4.stkSub _ hm) with z | z
        · exact absurd (Nat.lt_of_lt_of_le J4.lt (by rw [← z]; exact hge)) (Nat.lt_irrefl _)
        · exact J4.nofs hge z
      · show (tau0 N).length = N.length
        unfold tau0
        rw [List.length_map]
      · exact T.keep _ _ _ st3 fun b _ o e => keep5 b o e
    · show (s2.gens.push _)[s2.gens.size]? = _
      exact Array.getElem?_push_size ..
    · intro H5 s6 I6
      refine ⟨?_, I6.nolimit⟩
      have e6 := (I6.pin (h'.objs.size, go) (List.mem_append_left _ (List.mem_singleton.mpr rfl))).1
      refine ⟨go, .str "<genexpr>" (tk + 1), .str (X.env.qual ++ "<genexpr>") (tk + 1 + 1), e6, ?_, ?_, ?_⟩ <;> (subst hgo; rfl)
    · intro H5 s6 I6
      exact J4.call' (ch := fp) I6.os I6.base I6.hok I6.bare fun b hb => ⟨(f2 b hb).2.2.2.1, (f2 b hb).2.1, (f2 b hb).2.2.2.2.1, (f2 b hb).2.2.2.2.2⟩
  cases hf : codeAmong gpos ps.toList with
  | none =>
    refine wpAny_genexprCodeX hcode (cd.code hPs ht) (cd.tab hPs) hf fun c' h' tk hx hge hlt hco' _ htab' _ => ?_
    obtain ⟨o1, vs, f1, tf, fl, tg, inF, tx, tt, op, _, _, _, _, _, _, _, _, _, htr, _⟩ := hco'
    exact cont _ h' tk _ hx (Nat.le_trans hge (Nat.le_of_lt hlt)) htab'.2 ⟨_, rfl⟩ htr
  | some cv =>
    refine wpAny_genexprCode_hit hcode (cd.code hPs ht) hf ?_
    exact cont cv s2.heap s2.toks ps (Heap.ExtBut.refl _ _) (Nat.le_refl _) hPs ⟨#[], by simp⟩ ht

/-! ### all(elt for x in it) -/
def tAllG (P : Addr) (N : List Str) (wi : TI) (g : TG) (te : TE) : TE := fun σ H Q => wi σ H fun J H1 => GxR.TabG H1 P ∧ ∀ H2, GxR.Tabbed P H1 H2 →
  ∃ (len : Nat) (W : Nat → Hp → Prop), W 0 H2 ∧ ∀ i H, W i H → i ≤ len ∧ ((J.stop i H ∧ Q (.bl true) H) ∨ (i < len ∧ J.go i H ∧ ∀ x H', J.yld i H x H' → g x (tau0 N) H' fun τ2 H2 => te τ2 H2 fun y H3 => ∃ b, y = .bl b ∧ if b = true then W (i + 1) H3 else Q (.bl false) H3))
theorem pe_allG {p pos : Pos} (hr : Room k X.A) (hg : Gl X "all") (hm : X.mg "all" = none) (TB : LamX.TabB X.base X.mg c P) (hcode : X.env.code = .ref c) (S : GScp scope) (hi : PI X tg iter wi)
    (hel : ∀ Xg, IsG X scope N Xg → PG Xg tg g ∧ PE Xg elt te) (hs : ∀ v, genFold iter X.env v = pure v := by intro _; rfl)
    (he : starEach [.GeneratorExp elt [⟨tg, iter, [], 0⟩] scope gpos] X.env = (false, eval (.GeneratorExp elt [⟨tg, iter, [], 0⟩] scope gpos) X.env) :: starEach [] X.env := by rfl) :
    PE X (.Call (.Name "all" p) [.GeneratorExp elt [⟨tg, iter, [], 0⟩] scope gpos] [] pos) (tAllG P N wi g te) := by
  refine ⟨fun pins s σ H Q I h => ?_⟩
  refine wpAny_Call_Name_kw (ld_blt I hg hm (show bootBuiltins "all" = some (.builtin "all") by decide +kernel) ?_)
  refine PyProof.Rows.callWith_builtin1 ?_ he (by rfl)
  rw [he]
  show wpAny _ _ (spliced ((false, eval (.GeneratorExp elt [⟨tg, iter, [], 0⟩] scope gpos) X.env) :: backTo pos (starEach [] X.env))) _ _ s
  refine Calls.spliced_cons (gen_made (N := N) hr TB hcode S hi hs I h fun J H2 a s5 gn it fp tn Xg cenv hR RD => ?_)
  obtain ⟨len, W, w0, hW⟩ := hR
  refine Calls.spliced_nil ?_
  obtain ⟨hPG, hPE⟩ := hel Xg RD.isg
  obtain ⟨s4, pn, rfl⟩ := RD.isx
  have seg := fun (s₀ s : Shared) (H : Hp) => seg_gs (iter := iter) (scope := scope) (pos := gpos) (len := len) (W := W) (Endp := fun H => Q (.bl true) H) (Yp := fun i y H3 => ∃ b, y = .bl b ∧ if b = true then W (i + 1) H3 else Q (.bl false) H3)
    RD.co RD.turn RD.fpok hPG hPE hW s₀ s H
  refine call_function_tree F.kind_all F.plain_all F.entry_all (F.args_all1 _) ?_
  unfold Builtin.«all»
  refine wpAny_bind (m := oneArg "all" _) (wpAny_pure ?_)
  refine wpAny_bind (wpAny_pyIter_gen (RD.pin _ _ RD.at0.1).1 ?_)
  refine wpAny_pure ⟨plainId_quiet F.plain_all_loop _, ?_⟩
  refine all_gx (Xg := gcx X cenv N s4 H2 fp pn) hr.hd (by have := hr.dp; omega) RD.pin (fun H' s' I' hE => ?_) (fun i y H' hy => ?_) len s5 ⟨(RD.pin _ _ RD.at0.1).1, (RD.pin _ _ RD.at0.1).2, _, RD.gen, rfl, seg _ _ _ (RD.at0.slp RD.turn.keep ⟨rfl, allBare_setGen RD.at0.1.bare rfl, fun _ _ e => e⟩) w0⟩
  · exact ⟨.bl true, H', RD.back H' s' I', rfl, hE⟩
  · obtain ⟨b, rfl, hb⟩ := hy
    refine ⟨b, rfl, fun e => ?_, fun e s1 I1 => ?_⟩
    · rw [if_pos e] at hb
      exact hb
    · subst e
      rw [if_neg Bool.false_ne_true] at hb
      exact ⟨.bl false, H', RD.back H' s1 I1, rfl, hb⟩
end
end GX

set_option Elab.async false
set_option linter.all false
set_option maxRecDepth 100000
set_option maxHeartbeats 2000000
namespace HK
open PySem PySem.Spec PyProof.Rows L2

/-! ### constants of the module -/
def GloE (mg : Str → Option Value) (x : Str) (v : V) : Prop := ∃ u, mg x = some u ∧ RelV v u
theorem pe_glo {X : Cx} {x : Str} {v : V} {pos : Pos} (hg : Gl X x) (h : GloE X.mg x v) (hd : (x == ("__debug__" : Str)) = false := by decide) : PE X (.Name x pos) (tC v) := by
  obtain ⟨u, h1, h2⟩ := h
  exact pe_glob hg h1 h2 hd

/-! ### defs -/
/-- a def of the text, at f, its code object's value cd -/
structure FnAt (K : PySem.W.Frag) (mg : Str → Option Value) (x : Str) (st : Stmt) (ps : List Str) (f : Addr) (cd : Value) : Prop where
  ex : ∃ (oc : Value) (od : Option Addr) (kV doc pm : Value) (an : Option Addr) (ct : Value) (osl : Array (Option Value)),
    K.lookup f = some ⟨oc, od, .func (PySem.W.fnOf x x (defArgs st) (defBody st) (defScope st) .none kV doc pm an cd ct), osl⟩ ∧ PySem.W.codeIn K cd x = true ∧
    Binds K (PySem.W.fnOf x x (defArgs st) (defBody st) (defScope st) .none kV doc pm an cd ct) ps []
  kp : PySem.W.keepIn K (.ref f) = true
  mgf : mg x = some (.ref f)
/-- a def that may be called by its name -/
def CalE (P : Program) (w : World) (K : PySem.W.Frag) (mg : Str → Option Value) (base : Heap) (CX : CXT) (k : Nat) (x : Str) (sp : Sp) : Prop :=
  ∃ (f : Addr) (fd : FuncData) (ps : List Str), FnOk P w K mg base CX k f fd ps sp ∧ mg x = some (.ref f) ∧ PySem.W.keepIn K (.ref f) = true ∧ Binds K fd ps []
section
variable {P : Program} {w : World} {K : PySem.W.Frag} {mg : Str → Option Value} {base : Heap} {x : Str} {st : Stmt} {f : Addr} {cd : Value} {N ps : List Str} {k : Nat} {sp : Sp}
theorem FnAt.cal (F : FnAt K mg x st ps f cd) (S : FnScope N ps (defScope st)) (len : ∀ vs H Q E, sp vs H Q E → vs.length = ps.length)
    (hbody : ∀ (A : Around) (outer : List Env) (s : Shared) (H : Hp) (vs : List V) (Q : VK) (E : XK), Room k (A.deeper (envOfC x (defScope st) s.heap.objs.size f cd)) → sp vs H Q E →
      ∃ t, PSs (cxOf CX0 P w K mg base N x (defScope st) f cd A outer s H E).nox (defBody st) t ∧ t { nx := fun _ H' => Q .non H', rt := Q } (start N vs) H) : CalE P w K mg base CX0 (k + 1) x sp := by
  obtain ⟨oc, od, kV, doc, pm, an, ct, osl, lk, hcd, hb⟩ := F.ex
  refine ⟨f, _, ps, fn_of lk hcd S len fun A outer s H vs Q E hr hsp => ?_, F.mgf, F.kp, hb⟩
  obtain ⟨t, h, q⟩ := hbody A outer s H vs Q E hr hsp
  exact ⟨t, h.nox, q⟩
/-- .. of a def that may raise -/
theorem FnAt.calX (F : FnAt K mg x st ps f cd) (S : FnScope N ps (defScope st)) (len : ∀ vs H Q E, sp vs H Q E → vs.length = ps.length)
    (hbody : ∀ (A : Around) (outer : List Env) (s : Shared) (H : Hp) (vs : List V) (Q : VK) (E : XK), Room k (A.deeper (envOfC x (defScope st) s.heap.objs.size f cd)) → sp vs H Q E →
      ∃ t, PSs (cxOf (L2.CX P w) P w K mg base N x (defScope st) f cd A outer s H E) (defBody st) t ∧ t { nx := fun _ H' => Q .non H', rt := Q } (start N vs) H) : CalE P w K mg base (L2.CX P w) (k + 1) x sp := by
  obtain ⟨oc, od, kV, doc, pm, an, ct, osl, lk, hcd, hb⟩ := F.ex
  exact ⟨f, _, ps, fn_of lk hcd S len fun A outer s H vs Q E hr hsp => hbody A outer s H vs Q E hr hsp, F.mgf, F.kp, hb⟩
theorem CalE.mono {CX : CXT} {j : Nat} (c : CalE P w K mg base CX j x sp) (h : j ≤ k) : CalE P w K mg base CX k x sp := by
  obtain ⟨f, fd, ps, F, r⟩ := c
  exact ⟨f, fd, ps, F.mono h, r⟩
/-- the law itself, by its body -/
def FnG (P : Program) (w : World) (K : PySem.W.Frag) (mg : Str → Option Value) (base : Heap) (CX : CXT) (k : Nat) (x : Str) (st : Stmt) (ps : List Str) (f : Addr) (cd : Value) (sp : Sp) : Prop :=
  ∀ (oc : Value) (od : Option Addr) (kV doc pm : Value) (an : Option Addr) (ct : Value) (osl : Array (Option Value)), K.lookup f = some ⟨oc, od, .func (PySem.W.fnOf x x (defArgs st) (defBody st) (defScope st) .none kV doc pm an cd ct), osl⟩ → PySem.W.codeIn K cd x = true →
    FnOk P w K mg base CX k f (PySem.W.fnOf x x (defArgs st) (defBody st) (defScope st) .none kV doc pm an cd ct) ps sp
theorem law_of (S : FnScope N ps (defScope st)) (len : ∀ vs H Q E, sp vs H Q E → vs.length = ps.length)
    (hbody : ∀ (A : Around) (outer : List Env) (s : Shared) (H : Hp) (vs : List V) (Q : VK) (E : XK), Room k (A.deeper (envOfC x (defScope st) s.heap.objs.size f cd)) → sp vs H Q E →
      ∃ t, PSs (cxOf CX0 P w K mg base N x (defScope st) f cd A outer s H E).nox (defBody st) t ∧ t { nx := fun _ H' => Q .non H', rt := Q } (start N vs) H) : FnG P w K mg base CX0 (k + 1) x st ps f cd sp := by
  intro oc od kV doc pm an ct osl lk hcd
  refine fn_of lk hcd S len fun A outer s H vs Q E hr hsp => ?_
  obtain ⟨t, h, q⟩ := hbody A outer s H vs Q E hr hsp
  exact ⟨t, h.nox, q⟩
theorem fnAt_mk {oc : Value} {od : Option Addr} {kV doc pm : Value} {an : Option Addr} {ct : Value} {osl : Array (Option Value)} (m : mg x = some (.ref f)) (l : K.lookup f = some ⟨oc, od, .func (PySem.W.fnOf x x (defArgs st) (defBody st) (defScope st) .none kV doc pm an cd ct), osl⟩)
    (c : PySem.W.codeIn K cd x = true) (kp : PySem.W.keepIn K (.ref f) = true)
    (h : ∀ us : List Value, us.length = ps.length → bindArgs (PySem.W.fnOf x x (defArgs st) (defBody st) (defScope st) .none kV doc pm an cd ct) ⟨us, []⟩ = pure (ps.zip us)) : FnAt K mg x st ps f cd :=
  ⟨⟨oc, od, kV, doc, pm, an, ct, osl, l, c, .all h⟩, kp, m⟩
end
def tCal (sp : Sp) (E : L2.St → XK) (t : TA) : TE := fun σ H Q => t σ H fun vs H1 => sp vs H1 Q (E σ)
section
variable {X : Cx} {k : Nat} {x : Str} {sp : Sp} {p pos : Pos} {e : Expr} {es : List Expr} {t : TA}
theorem pe_cal (c : CalE X.prog X.w X.K X.mg X.base CX0 k x sp) (hr : Room k X.A) (hg : Gl X x) (ha : PA X (e :: es) t) (hdb : (x == ("__debug__" : Str)) = false := by decide)
    (he : starEach (e :: es) X.env = (false, eval e X.env) :: starEach es X.env := by rfl) (hpl : (backTo pos (starEach es X.env)).any (·.1) = false := by rfl) :
    PE X (.Call (.Name x p) (e :: es) [] pos) (tCal sp (fun _ => E0) t) := by
  obtain ⟨f, fd, ps, F, hm, kp, b⟩ := c
  exact pe_callS F hr hg hm kp b (fun _ _ _ _ _ _ _ h => h.elim) ha hdb he hpl
/-- a def that may raise, where it doesn't -/
theorem pe_calL (c : CalE X.prog X.w X.K X.mg X.base (L2.CX X.prog X.w) k x sp) (hr : Room k X.A) (hg : Gl X x) (ha : PA X (e :: es) t) (hdb : (x == ("__debug__" : Str)) = false := by decide)
    (he : starEach (e :: es) X.env = (false, eval e X.env) :: starEach es X.env := by rfl) (hpl : (backTo pos (starEach es X.env)).any (·.1) = false := by rfl) :
    PE X (.Call (.Name x p) (e :: es) [] pos) (tCal sp (fun _ => E0) t) := by
  obtain ⟨f, fd, ps, F, hm, kp, b⟩ := c
  exact pe_callS F hr hg hm kp b (fun _ _ _ _ _ _ _ h => by
    obtain ⟨_, _, _, _, _, _, _, _, _, _, _, _, z⟩ := h
    exact z.elim) ha hdb he hpl
/-- .. in a try, or in a def that lets it out: W is wished of it -/
theorem pe_calS {W : WX} (c : CalE X.prog X.w X.K X.mg X.base (L2.CX X.prog X.w) k x sp) (hr : Room k X.A) (hg : Gl X x) (tk : Takes X W) (ha : PA X (e :: es) t) (hdb : (x == ("__debug__" : Str)) = false := by decide)
    (he : starEach (e :: es) X.env = (false, eval e X.env) :: starEach es X.env := by rfl) (hpl : (backTo pos (starEach es X.env)).any (·.1) = false := by rfl) :
    PE X (.Call (.Name x p) (e :: es) [] pos) (tCal sp (WE W) t) := by
  obtain ⟨f, fd, ps, F, hm, kp, b⟩ := c
  exact pe_callS F hr hg hm kp b (fun σ => passAt tk σ) ha hdb he hpl
/-- f() -/
theorem pe_cal0 (c : CalE X.prog X.w X.K X.mg X.base CX0 k x sp) (hr : Room k X.A) (hg : Gl X x) (hdb : (x == ("__debug__" : Str)) = false := by decide) : PE X (.Call (.Name x p) [] [] pos) (tCal sp (fun _ => E0) tNil) := by
  obtain ⟨f, fd, ps, F, hm, kp, b⟩ := c
  have h := pe_call0 (p := p) (pos := pos) F hr hg hm kp b .nil (pass0 (X := X)) hdb
  exact h
end

/-! ### own errors without __init__ -/
def exBases : List Value := [.type "ValueError", .type "Exception", .type "BaseException", .type "object"]
structure ExcE (K : PySem.W.Frag) (mg : Str → Option Value) (x : Str) (C : Addr) : Prop where
  m : mg x = some (.ref C)
  q : PySem.W.excIn K C exBases "ValueError.__new__" = true
  kp : PySem.W.keepIn K (.ref C) = true
  sb : PySem.W.subIn K (.ref C) (.type "BaseException") = some true
  ty : PySem.W.typeIn K (.ref C) = some (.type "type")
  is : PySem.W.isClsIn K C = true
  self : PySem.W.subIn K (.ref C) (.ref C) = some true
theorem exm_self {K : PySem.W.Frag} {S : Addr} (h1 : PySem.W.subIn K (.ref S) (.type "BaseException") = some true) (h2 : PySem.W.isClsIn K S = true) (h3 : PySem.W.typeIn K (.ref S) = some (.type "type")) (h4 : PySem.W.subIn K (.ref S) (.ref S) = some true) :
    PySem.W.exmOne K (.ref S) (.ref S) = some true := by
  have e1 : (PySem.W.subIn K (.ref S) (.type "BaseException") == some true) = true := by rw [h1] <;> rfl
  have e2 : ((PySem.W.clsIn K S).isSome && PySem.W.typeIn K (.ref S) == some (.type "type")) = true := by
    have h2' : (PySem.W.clsIn K S).isSome = true := h2
    rw [h2', h3] <;> rfl
  show (if (PySem.W.subIn K (.ref S) (.type "BaseException") == some true) = true then (if ((PySem.W.clsIn K S).isSome && PySem.W.typeIn K (.ref S) == some (.type "type")) = true then PySem.W.subIn K (.ref S) (.ref S) else none) else none) = some true
  rw [if_pos e1, if_pos e2]
  exact h4
theorem ExcE.ex {K : PySem.W.Frag} {mg : Str → Option Value} {x : Str} {C : Addr} (h : ExcE K mg x C) : PySem.W.exmOne K (.ref C) (.ref C) = some true := exm_self h.sb h.is h.ty h.self
theorem pmk_own0 {X : Cx} {C : Addr} {x : Str} {p pos : Pos} (h : ExcE X.K X.mg x C) (hg : Gl X x) (hdb : (x == ("__debug__" : Str)) = false := by decide) :
    PMk X (.Call (.Name x p) [] [] pos) (fun _ H Q => Q (.ref C) none H) := by
  intro pins s σ H Q I hq
  refine wpAny_Call_Name_kw (ld_glob I hg h.m ?_ hdb)
  refine PySem.W.callWith_K0 I.kIn h.kp ?_
  show wpAny _ _ (call (.ref C) []) _ _ _
  obtain ⟨bm, N, nm, qn, bs, hdct, sn, sub, ab, col, dd, k0, k1, k2, k3, k5, mN, hC, hN, hni, T⟩ := exc_obj I.kIn h.q
  refine wpAny_call_exc_subT PySem.F.excBase_ValueError T hC hN hni (fun h' e hm => ?_) (Nat.zero_le _)
  exact mk_of I hm (raises_own h.sb h.ty) hq (I.hok.gone hm.new)

/-! ### heaps: the tables tb may grow, what stands at ch may change, all else that was tracked stands -/
def Tabs (tb : List Addr) (H : Hp) : Prop := ∀ b ∈ tb, GxR.TabG H b
structure Ext (tb ch : List Addr) (H H' : Hp) : Prop where
  keep : ∀ b o, b ∉ tb → b ∉ ch → H b = some o → H' b = some o
  tabs : Tabs tb H → Tabs tb H'
section
variable {tb ch : List Addr} {H H1 H2 H3 : Hp} {a b p : Addr} {o : HO} {K : PySem.W.Frag} {xs : List V}
theorem Ext.refl : Ext tb ch H H := ⟨fun _ _ _ _ h => h, fun h => h⟩
theorem Ext.trans (h : Ext tb ch H H1) (g : Ext tb ch H1 H2) : Ext tb ch H H2 := ⟨fun b o h1 h2 e => g.keep b o h1 h2 (h.keep b o h1 h2 e), fun t => g.tabs (h.tabs t)⟩
theorem Ext.wide {ch' : List Addr} (h : Ext tb ch H H1) (w : ∀ b ∈ ch, b ∈ ch') : Ext tb ch' H H1 := ⟨fun b o h1 h2 e => h.keep b o h1 (fun z => h2 (w b z)) e, h.tabs⟩
theorem Ext.of0 {ch' : List Addr} (h : Ext tb [] H H1) : Ext tb ch' H H1 := h.wide fun _ z => (by cases z)
theorem Tabs.ne (t : Tabs tb H) (h : H p = none) : p ∉ tb := fun z => by
  obtain ⟨ps, e, _⟩ := t p z
  rw [h] at e
  cases e
theorem TabG.upd {c : Addr} (h : GxR.TabG H c) (hp : p ≠ c) : GxR.TabG (upd H p o) c := by
  obtain ⟨ps, e, q⟩ := h
  exact ⟨ps, by rw [upd_ne (Ne.symm hp)]; exact e, q⟩
theorem Tabs.upd (t : Tabs tb H) (hp : p ∉ tb) : Tabs tb (upd H p o) := fun b hb => TabG.upd (t b hb) fun z => hp (by rw [z]; exact hb)
/-- a new object -/
theorem Ext.new (t : Tabs tb H) (h : H p = none) : Ext tb ch H (upd H p o) :=
  ⟨fun b u _ _ e => by rw [upd_ne (ne_of_none e h)]; exact e, fun _ => t.upd (t.ne h)⟩
/-- what stands at a changed place is changed -/
theorem Ext.mut (hp : p ∈ ch) (nt : p ∉ tb) : Ext tb ch H (upd H p o) :=
  ⟨fun b u _ h2 e => by rw [upd_ne (fun z => h2 (by rw [z]; exact hp))]; exact e, fun t => t.upd nt⟩
/-- what came new may be changed -/
theorem Ext.own (t : Tabs tb H) (h : Ext tb ch H H1) (hp : H p = none) : Ext tb ch H (upd H1 p o) :=
  ⟨fun b u h1 h2 e => by rw [upd_ne (ne_of_none e hp)]; exact h.keep b u h1 h2 e, fun _ => (h.tabs t).upd (t.ne hp)⟩
theorem Ext.tabbed (h : GxR.Tabbed p H H1) (hp : p ∈ tb) : Ext tb ch H H1 :=
  ⟨fun b u h1 _ e => by rw [h.2 b (fun z => h1 (by rw [z]; exact hp))]; exact e, fun t b hb => by
    by_cases e : b = p
    · rw [e]
      exact h.1
    · obtain ⟨ps, e1, e2⟩ := t b hb
      exact ⟨ps, by rw [h.2 b e]; exact e1, e2⟩⟩
theorem Ext.free (h : Ext tb ch H H1) (t : Tabs tb H) (hp : H1 p = none) (hc : p ∉ ch) : H p = none := by
  cases e : H p with
  | none => rfl
  | some u =>
    by_cases hb : p ∈ tb
    · exact absurd hp (fun z => by
        obtain ⟨ps, e1, _⟩ := h.tabs t p hb
        rw [z] at e1
        cases e1)
    · rw [h.keep p u hb hc e] at hp
      cases hp
theorem ne_tab (t : Tabs tb H) (e : H a = some o) (ho : ∀ ps, o ≠ .tbl ps) : a ∉ tb := fun z => by
  obtain ⟨ps, e1, _⟩ := t a z
  rw [e] at e1
  exact ho ps (Option.some.inj e1)
theorem Ext.rd (h : Ext tb ch H H1) (t : Tabs tb H) {u : HO} (hu : (∃ xs, u = .lst xs) ∨ ∃ xs, u = .tup xs) (r : Rd H a u) (hc : a ∉ ch) : Rd H1 a u := by
  rcases r with r | ⟨oo, r⟩
  · exact .inl (h.keep _ _ (ne_tab t r fun ps z => by rcases hu with ⟨xs, rfl⟩ | ⟨xs, rfl⟩ <;> cases z) hc r)
  · exact .inr ⟨oo, h.keep _ _ (ne_tab t r fun ps z => by cases z) hc r⟩
theorem Ext.sqL (h : Ext tb ch H H1) (t : Tabs tb H) (s : SqL K H a xs) (hc : a ∉ ch) : SqL K H1 a xs := by
  rcases s with s | s
  · exact .inl (h.rd t (.inl ⟨_, rfl⟩) s hc)
  · exact .inr s
theorem Ext.sqT (h : Ext tb ch H H1) (t : Tabs tb H) (s : SqT K H a xs) (hc : a ∉ ch) : SqT K H1 a xs := by
  rcases s with s | s
  · exact .inl (h.rd t (.inr ⟨_, rfl⟩) s hc)
  · exact .inr s
theorem Ext.lst (h : Ext tb ch H H1) (t : Tabs tb H) (e : H a = some (.lst xs)) (hc : a ∉ ch) : H1 a = some (.lst xs) := h.keep _ _ (ne_tab t e fun ps z => by cases z) hc e
theorem Ext.tup (h : Ext tb ch H H1) (t : Tabs tb H) (e : H a = some (.tup xs)) (hc : a ∉ ch) : H1 a = some (.tup xs) := h.keep _ _ (ne_tab t e fun ps z => by cases z) hc e
theorem Ext.dK {kvs : List (Key × V)} (h : Ext tb ch H H1) (t : Tabs tb H) (e : H a = some (.dK kvs)) (hc : a ∉ ch) : H1 a = some (.dK kvs) := h.keep _ _ (ne_tab t e fun ps z => by cases z) hc e
end

/-! ### the end: a law whose defs have tables -/
/-- what is known of a def's code object and its table -/
def TabAt (K : PySem.W.Frag) (mg : Str → Option Value) (h : Heap) (q : Program) : Prop := ∀ (nm : Str) (f c P : Addr) (o : Obj) (fd : FuncData) (e : Value) (dd : Option Addr) (vs : Array Value) (sl : Array (Option Value)),
  ((recsOf q).any fun e => e.name == nm) = true → mg nm = some (.ref f) → K.lookup f = some o → o.data = .func fd → fd.code = .ref c → K.lookup c = some ⟨e, dd, .fields vs, sl⟩ → vs[11]? = some (.ref P) →
  PySem.W.CodeHd h c P ∧ h.get? P = some { cls := .none, data := .fields #[] }
theorem walk_tabs {l : PySem.W.OpenLaw} {n k : Nat} {q : Program} {loose : List Str} {XP : (Str → Option Value) → Heap → Prop} {YP : World → Heap → Prop} {d : DefRec} {K : Params → PySem.W.Frag} {CX : World → CXT} {x : Str}
    (hn : l.most = some n) (hn2 : n ≤ sizeLine) (hdf : d.params.defaults = []) (hr : Room k callerA) (hY : ∀ (w : World) (h : Heap), YP w h → (K w.params).In h)
    (F : ∀ (w : World) (mg : Str → Option Value) (fa : Addr) (h : Heap), YP w h → (K w.params).In h → h.Ns mainGlobals mg → mg d.name = some (.ref fa) → TabAt (K w.params) mg h q → LamX.LawAtS l w (K w.params) (CX w) k n x mg fa h)
    (hCX : ∀ (w : World) (H : Hp) (s : Shared) (e : Value) (s' : Shared), CX w [] H s (fun _ _ _ => False) e s' → False) :
    PySem.W.WalkO q loose XP YP l.row.toRowW d [] (fun f vs => PySem.call f vs) := by
  refine Att.attach_callB hn hdf fun w s₀ s₁ mg mb fa o pm cd doc a vs ns G Y ho hd hcd hmg hobj hints hlen hbits hg => ?_
  have KX := hY w _ Y
  have tabs : TabAt (K w.params) mg s₁.heap q := fun nm f c P o1 fd1 e dd vs1 sl hrec hm k1 k2 k3 k4 k5 => by
    obtain ⟨dL, hm1, hn1⟩ := List.any_eq_true.mp hrec
    have hn2 : dL.name = nm := beq_iff_eq.mp hn1
    obtain ⟨a', o', fd', c', P', h1, h2, h3, h4, h5, h6⟩ := G.T.tab dL hm1
    rw [hn2, hm] at h1
    cases h1
    have g1 := KX _ _ k1
    rw [g1] at h2
    cases h2
    rw [k2] at h3
    cases h3
    rw [k3] at h4
    cases h4
    have hd := PySem.W.CodeHd.of h5 h6
    obtain ⟨⟨oc, vc, e1, _, e3, e4⟩, hP⟩ := h6
    have g2 := KX _ _ k4
    rw [g2] at e1
    cases e1
    cases e3
    rw [k5] at e4
    cases e4
    exact ⟨hd, hP⟩
  obtain ⟨fd, cs, sp, hT, nT, C, hb, hsp, hF⟩ := F w mg fa _ Y KX G.T.g hmg tabs
  exact LamX.law_callTs KX G.T.g G.T.b G.T.builtins G.T.nolimit hg hT nT C G.T.bmain hobj hints (Nat.le_trans hlen hn2) hr hF hb (fun H hH hS => hsp H a ns hlen hbits hH hS) fun H e s' => hCX w H s₁ e s'

/-! ### isinstance; all over a generator expression -/
theorem isi {K : PySem.W.Frag} {H : Hp} {x : V} {t n : String} {b : Bool} {Q : VK} (ty : TyX K H x (.type t)) (hk : kitB t n = some b) (q : Q (.bl b) H) : rIsi K [x, .ty n] H Q :=
  ⟨x, .ty n, .type t, .type n, b, rfl, .ty n, ty, kit_ty hk, q⟩
def trV {α : Type} (f : α → Bool) (l : List α) (i : Nat) : Bool := match l[i]? with
  | some b => f b
  | none => false
theorem trV_some {α : Type} {f : α → Bool} {l : List α} {i : Nat} {b : α} (h : l[i]? = some b) : trV f l i = f b := by
  unfold trV
  rw [h]
theorem all_trV {α : Type} (f : α → Bool) (l : List α) : (List.range l.length).all (trV f l) = l.all f := by
  rw [Bool.eq_iff_iff, List.all_eq_true, List.all_eq_true]
  constructor
  · intro h b hb
    obtain ⟨j, hj, e⟩ := List.getElem_of_mem hb
    have q := h j (List.mem_range.mpr hj)
    rw [trV_some (List.getElem?_eq_getElem hj), e] at q
    exact q
  · intro h j hj
    have hj' := List.mem_range.mp hj
    rw [trV_some (List.getElem?_eq_getElem hj')]
    exact h _ (List.getElem_mem hj')
theorem allG_by {J : It} {N : List Str} {g : TG} {te : TE} {Q : VK} {H2 : Hp} (len : Nat) (pb : Nat → Bool) (Pv : Hp → Prop) (h0 : Pv H2) (hstop : ∀ H, Pv H → J.stop len H) (hgo : ∀ i H, i < len → Pv H → J.go i H)
    (hstep : ∀ i H x H', i < len → Pv H → J.yld i H x H' → ∀ R : VK, (∀ H3, Pv H3 → R (.bl (pb i)) H3) → g x (GX.tau0 N) H' fun τ2 H2 => te τ2 H2 R)
    (hq : ∀ H b, Pv H → b = (List.range len).all pb → Q (.bl b) H) :
    ∃ (len : Nat) (W : Nat → Hp → Prop), W 0 H2 ∧ ∀ i H, W i H → i ≤ len ∧ ((J.stop i H ∧ Q (.bl true) H) ∨ (i < len ∧ J.go i H ∧ ∀ x H', J.yld i H x H' → g x (GX.tau0 N) H' fun τ2 H2 => te τ2 H2 fun y H3 => ∃ b, y = .bl b ∧ if b = true then W (i + 1) H3 else Q (.bl false) H3)) := by
  refine ⟨len, fun i H => i ≤ len ∧ Pv H ∧ ∀ j, j < i → pb j = true, ⟨Nat.zero_le _, h0, fun j hj => absurd hj (Nat.not_lt_zero _)⟩, ?_⟩
  rintro i H ⟨hi, hp, hj⟩
  refine ⟨hi, ?_⟩
  by_cases e : i < len
  · refine .inr ⟨e, hgo i H e hp, fun x H' hy => hstep i H x H' e hp hy _ fun H3 hp3 => ⟨pb i, rfl, ?_⟩⟩
    cases hb : pb i with
    | true =>
      refine iteT ⟨e, hp3, fun j hj' => ?_⟩
      rcases Nat.lt_or_ge j i with z | z
      · exact hj j z
      · have : j = i := by omega
        rw [this]
        exact hb
    | false =>
      refine iteF (hq H3 false hp3 ?_)
      symm
      rw [List.all_eq_false]
      exact ⟨i, List.mem_range.mpr e, by rw [hb]; exact Bool.false_ne_true⟩
  · have : i = len := by omega
    subst this
    refine .inl ⟨hstop H hp, hq H true hp ?_⟩
    symm
    rw [List.all_eq_true]
    exact fun j hj' => hj j (List.mem_range.mp hj')
theorem line_of {n : Nat} (h : n ≤ 100000) : n ≤ sizeLine := Nat.le_trans h (by decide)
theorem line_lt {n : Nat} (h : n ≤ 100000) : n < sizeLine := Nat.lt_of_le_of_lt h (by decide)

/-! ### data of ints, of texts -/
theorem dp_ints {K : PySem.W.Frag} {H : Hp} : ∀ ns : List Int, DpAll K H (ns.map V.int) (ns.map PyData.int)
  | [] => .nil
  | n :: r => .cons (.int n) (dp_ints r)
theorem dp_strs {K : PySem.W.Frag} {H : Hp} : ∀ ns : List Str, DpAll K H (ns.map V.str) (ns.map PyData.str)
  | [] => .nil
  | n :: r => .cons (.str n) (dp_strs r)
theorem canAll_ints : ∀ ns : List Int, PyData.canLayAll0 (ns.map PyData.int) = true
  | [] => rfl
  | n :: r => by
    show (PyData.canLay0 (.int n) && PyData.canLayAll0 (r.map PyData.int)) = true
    rw [canAll_ints r] <;> rfl
theorem depAll_ints : ∀ ns : List Int, PyData.depthAll (ns.map PyData.int) = 0
  | [] => rfl
  | n :: r => by
    show max (PyData.depth (.int n)) (PyData.depthAll (r.map PyData.int)) = 0
    rw [depAll_ints r] <;> rfl
theorem sh_ints (ns : List Int) : SeqAt.shaped (.list (ns.map PyData.int)) = true := by
  have h1 : PyData.canLay0 (.list (ns.map PyData.int)) = true := canAll_ints ns
  have h2 : PyData.depth (.list (ns.map PyData.int)) = 1 := by
    show PyData.depthAll (ns.map PyData.int) + 1 = 1
    rw [depAll_ints]
  unfold SeqAt.shaped
  rw [h1, h2] <;> rfl
theorem canAll_strs : ∀ ns : List Str, (∀ s ∈ ns, PyData.canLay0 (.str s) = true) → PyData.canLayAll0 (ns.map PyData.str) = true
  | [], _ => rfl
  | n :: r, h => by
    show (PyData.canLay0 (.str n) && PyData.canLayAll0 (r.map PyData.str)) = true
    rw [canAll_strs r fun s hs => h s (List.mem_cons_of_mem _ hs), h n (List.mem_cons_self ..)] <;> rfl
theorem depAll_strs : ∀ ns : List Str, PyData.depthAll (ns.map PyData.str) = 0
  | [] => rfl
  | n :: r => by
    show max (PyData.depth (.str n)) (PyData.depthAll (r.map PyData.str)) = 0
    rw [depAll_strs r] <;> rfl
theorem sh_tstrs {ns : List Str} (h : ∀ s ∈ ns, PyData.canLay0 (.str s) = true) : SeqAt.shaped (.tuple (ns.map PyData.str)) = true := by
  have h1 : PyData.canLay0 (.tuple (ns.map PyData.str)) = true := canAll_strs ns h
  have h2 : PyData.depth (.tuple (ns.map PyData.str)) = 1 := by
    show PyData.depthAll (ns.map PyData.str) + 1 = 1
    rw [depAll_strs]
  unfold SeqAt.shaped
  rw [h1, h2] <;> rfl

/-! ### the layer's rules, the written part told (a comprehension's frame has another context) -/
section
variable {X : Cx} {K : PySem.W.Frag} {tg : Expr} {e : Expr} {te : TE}
theorem q_isi (h : X.K = K) : CallR X (.builtin "isinstance") (rIsi K) := h ▸ call_isi
def rLenK (K : PySem.W.Frag) : List V → Hp → VK → Prop := fun xs H Q => ∃ x n, xs = [x] ∧ LenV K x H n ∧ Q (.int n) H
theorem q_len (h : X.K = K) : CallR X (.builtin "len") (rLenK K) := h ▸ call_len
def rTupK (K : PySem.W.Frag) : List V → Hp → VK → Prop := fun xs H Q => ∃ p ys, xs = [.ref p] ∧ ((SqL K H p ys ∧ ∀ l, H l = none → Q (.ref l) (upd H l (.tup ys))) ∨ (SqT K H p ys ∧ Q (.ref p) H))
theorem q_tup (h : X.K = K) : CallR X (.type "tuple") (rTupK K) := h ▸ call_tuple_of
def rLstK (K : PySem.W.Frag) : List V → Hp → VK → Prop := fun xs H Q => ∃ p ys, xs = [.ref p] ∧ (SqL K H p ys ∨ SqT K H p ys) ∧ ∀ l, H l = none → Q (.ref l) (upd H l (.lst ys))
theorem q_lst (h : X.K = K) : CallR X (.type "list") (rLstK K) := h ▸ call_list_of
theorem q_all (h : X.K = K) (hc : X.calm = true) : CallR X (.builtin "all") (rAll K) := h ▸ cr_all hc
theorem q_any (h : X.K = K) (hc : X.calm = true) : CallR X (.builtin "any") (rAny K) := h ▸ cr_any hc
theorem q_sum (h : X.K = K) (hc : X.calm = true) : CallR X (.builtin "sum") (rSum K) := h ▸ cr_sum hc
theorem q_ixL (h : X.K = K) : IxR X (rIxL K) := h ▸ ix_list
theorem q_ixT (h : X.K = K) : IxR X (rIxT K) := h ▸ ix_tup
theorem q_slL (h : X.K = K) : SlR X (rSlL K) := h ▸ sl_list
theorem q_slT (h : X.K = K) : SlR X (rSlA K) := h ▸ sl_tupA
theorem q_in (h : X.K = K) : OpR X (compareOp .In) (rIn K false) := h ▸ op_in_seq
theorem q_nin (h : X.K = K) : OpR X (compareOp .NotIn) (rIn K true) := h ▸ op_notIn_seq
theorem q_eqD (h : X.K = K) (hu : X.A.units + 64 < cLine) : OpR X (compareOp .Eq) (rEqD K) := h ▸ op_eqD hu
theorem q_neD (h : X.K = K) (hu : X.A.units + 64 < cLine) : OpR X (compareOp .NotEq) (rNeD K) := h ▸ op_neD hu
theorem q_catT (h : X.K = K) : OpR X (binaryOp .Add) (rCatA K) := h ▸ op_catA
theorem q_piL (h : X.K = K) (hl : PE X e te) : PI X tg e (iList K te) := h ▸ pi_list hl
theorem q_piT (h : X.K = K) (hl : PE X e te) : PI X tg e (iTup K te) := h ▸ pi_tup hl
theorem q_bm {T id : String} {name : Str} {o : Expr} {es : List Expr} {to : TE} {t : TA} {r : V → List V → Hp → VK → Prop} {apos cpos : Pos} (h : X.K = K) (pa : PlainAttrs T) (slot : Slot T name id) (hty : typeOf (.builtin id) = pure (.type "method_descriptor")) (hm : MtR X id r) (ho : PE X o to) (ha : PA X (e :: es) t)
    (hbase : attributeBase o name X.env (eval o X.env) = eval o X.env := by rfl)
    (hfew : ((backTo cpos (starEach (e :: es) X.env)).all (fun x => !x.1) && (backToKw cpos (keywordEach [] X.env)).all (fun x => x.1.isSome)
      && decide ((e :: es).length + ([] : List Keyword).length + (if ([] : List Keyword).isEmpty then 0 else 1) < 30)) = true := by rfl)
    (hline : (apos.endLine == cpos.line) = true := by rfl) (hs : starEach (e :: es) X.env = (false, eval e X.env) :: starEach es X.env := by rfl) (hplain : (backTo cpos (starEach es X.env)).any (·.1) = false := by rfl) :
    PE X (.Call (.Attribute o name apos) (e :: es) [] cpos) (tBM K T r to t) := h ▸ pe_bm pa slot hty hm ho ha hbase hfew hline hs hplain
theorem q_join {o : Expr} {to : TE} {apos pos : Pos} (h : X.K = K) (ho : PE X o to) (he : PE X e te) (hs : starEach [e] X.env = [(false, eval e X.env)] := by rfl) (hbase : attributeBase o "join" X.env (eval o X.env) = eval o X.env := by rfl) (hline : (apos.endLine == pos.line) = true := by rfl) :
    PE X (.Call (.Attribute o "join" apos) [e] [] pos) (tM1 (fun x xs H Q => ∃ a p, ∃ ys : List Str, x = .str a ∧ xs = [.ref p] ∧ (SqL K H p (ys.map V.str) ∨ SqT K H p (ys.map V.str)) ∧
    (ys.map (·.length)).sum + ys.length * a.length ≤ 16777216 ∧ Q (.str (Txt.join a ys)) H) to te) := h ▸ pe_join ho he hs hbase hline
end

/-- what the end asks, from the promise of the law -/
theorem law_at {l : PySem.W.OpenLaw} {w : World} {K : PySem.W.Frag} {mg : Str → Option Value} {h : Heap} {q : Program} {k n : Nat} {x nm : Str} {st : Stmt} {f fa : Addr} {cd : Value} {sp : Sp} {cs : List (Addr × Addr)}
    (hf : mg nm = some (.ref fa)) (F : FnAt K mg nm st [x] f cd) (hcs : ∀ p ∈ cs, PySem.W.CodeHd h p.1 p.2 ∧ h.get? p.2 = some { cls := .none, data := .fields #[] } ∧ K.lookup p.2 = none)
    (hb : ∀ (kV doc pm : Value) (an : Option Addr) (ct : Value) (s : Shared) (u : Value), BindsTo s (PySem.W.fnOf nm nm (defArgs st) (defBody st) (defScope st) .none kV doc pm an cd ct) ⟨[u], []⟩ [(x, u)])
    (hsp : ∀ (H : Hp) (a : Addr) (ns : List Int), ns.length ≤ n → (∀ z ∈ ns, Builtin.Int.intBits z ≤ 1048576) → Tabs (cs.map (·.2)) H → SqL K H a (ns.map V.int) → sp [.ref a] H (fun v _ => v = .bl true) fun _ _ _ => False)
    (hF : ∀ base : Heap, K.In base → base.Ns mainGlobals mg → (∀ p ∈ cs, LamX.TabB base mg p.1 p.2) → FnG l.prog w K mg base CX0 k nm st [x] f cd sp) : LamX.LawAtS l w K CX0 k n x mg fa h := by
  obtain ⟨oc, od, kV, doc, pm, an, ct, osl, lk, hcd, _⟩ := F.ex
  have e := hf.symm.trans F.mgf
  cases e
  refine ⟨PySem.W.fnOf nm nm (defArgs st) (defBody st) (defScope st) .none kV doc pm an cd ct, cs, sp, fun p hp => (hcs p hp).2.1, fun p hp => (hcs p hp).2.2, fun p hp => (hcs p hp).1, hb kV doc pm an ct, fun H a ns h1 h2 h3 h4 => ?_, fun base hK hN hT => hF base hK hN hT oc od kV doc pm an ct osl lk hcd⟩
  refine hsp H a ns h1 h2 (fun b hb => ?_) h4
  obtain ⟨p, hp, e⟩ := List.mem_map.mp hb
  rw [← e]
  refine ⟨#[], h3 p hp, ?_⟩
  first
    | trivial
    | simp [TriplesOk]
end HK

set_option Elab.async false
set_option linter.all false
set_option maxRecDepth 100000
set_option maxHeartbeats 2000000
/-! a tuple's slice with a step other than 1: t[a:b:c] -/
namespace SL
open PySem PySem.Spec PyProof.Rows L2 HT
/-- the items of xs[lo:hi:st] -/
def pick {α : Type} (xs : List α) (lo hi : Option Int) (st : Int) : List α :=
  (List.range (Builtin.Slice.slicePlaces (Builtin.Slice.sliceAdjust lo hi st (xs.length : Int)).1 (Builtin.Slice.sliceAdjust lo hi st (xs.length : Int)).2 st)).filterMap fun (m : Nat) => xs[((Builtin.Slice.sliceAdjust lo hi st (xs.length : Int)).1 + (m : Int) * st).toNat]?
section
variable {prog : Program} {w : World} {A : Around} {E : Value → Shared → Prop} {s : Shared}
theorem applied {sl : Addr} {vl vu vs : Value} {lo hi : Option Int} {st : Int} {n : Nat} {Q : Int × Int × Nat → Shared → Prop} (hs : s.heap.IsSliceOf sl vl vu vs) (pl : IsPart vl lo) (pu : IsPart vu hi) (ps : IsPart vs (some st)) (h0 : st ≠ 0)
    (h : Q ((Builtin.Slice.sliceAdjust lo hi st (n : Int)).1, st, Builtin.Slice.slicePlaces (Builtin.Slice.sliceAdjust lo hi st (n : Int)).1 (Builtin.Slice.sliceAdjust lo hi st (n : Int)).2 st) s) : wpAny (model prog w) A (Builtin.Slice.sliceApplied (.ref sl) (pure (n : Int))) Q E s := by
  obtain ⟨os, hos, hcs, hds⟩ := id hs
  unfold Builtin.Slice.sliceApplied Builtin.Slice.sliceFields
  refine wpAny_bind (wpAny_bind (wpAny_field hos hds (x := vl) rfl (wpAny_bind (wpAny_field hos hds (x := vu) rfl (wpAny_bind (wpAny_field hos hds (x := vs) rfl (wpAny_pure ?_)))))))
  refine wpAny_bind (slicePart_ ps ?_)
  show wpAny _ _ (if (st == 0) = true then _ else _) _ _ s
  rw [if_neg (by simpa using h0)]
  refine wpAny_bind (slicePart_ pl (wpAny_bind (slicePart_ pu (wpAny_bind (wpAny_pure ?_)))))
  exact wpAny_pure h
theorem pick_size (xs : List Value) (lo hi : Option Int) (st : Int) : (pick xs lo hi st).length ≤ Builtin.Slice.slicePlaces (Builtin.Slice.sliceAdjust lo hi st (xs.length : Int)).1 (Builtin.Slice.sliceAdjust lo hi st (xs.length : Int)).2 st := by
  unfold pick
  refine Nat.le_trans (List.length_filterMap_le _ _) ?_
  rw [List.length_range]
  exact Nat.le_refl _
theorem getItem_step {t sl : Addr} {items : Array Value} {vl vu vs : Value} {lo hi : Option Int} {st : Int} {Q : Value → Shared → Prop} (ht : IsTup s.heap t items) (hs : s.heap.IsSliceOf sl vl vu vs) (pl : IsPart vl lo) (pu : IsPart vu hi) (ps : IsPart vs (some st)) (h0 : st ≠ 0) (h1 : st ≠ 1)
    (hz : (pick items.toList lo hi st).length ≤ sizeLine)
    (h : Q (.ref s.heap.objs.size) { s with heap := s.heap.push { cls := .type "tuple", data := .seq (pick items.toList lo hi st).toArray } }) : wpAny (model prog w) A (getItem (.ref t) (.ref sl)) Q E s := by
  have htake : sizeOk (.seq (pick items.toList lo hi st).toArray) := by
    show (pick items.toList lo hi st).toArray.size ≤ sizeLine
    rw [List.size_toArray]
    exact hz
  obtain ⟨os, hos, hcs, hds⟩ := id hs
  have hTs : s.TypeIs (.ref sl) "slice" := ⟨os, hos, hcs⟩
  unfold getItem
  try with_reducible refine wpAny_holding ?_
  first | refine wpAny_bind (wpAny_pure ?_) | skip
  refine wpAny_bind (wpAny_sequenceKey ht.typeIs (by decide) ?_)
  refine wpAny_bind (wpAny_callSpecial?_slot (name := Str.ofString "__getitem__") ht.typeIs PyProof.Rows.slot_tuple_getitem
    (wpAny_call_entry PyProof.Rows.slot_tuple_getitem ht.typeIs entry_tuple_getitem ?_ (args_tuple_getitem _ _)))
  show wpAny _ _ (Builtin.Tuple.tupleItemsOf (.ref t) >>= _) _ _ s
  refine wpAny_bind (tupleItemsOf_ ht ?_)
  refine wpAny_bind (wpAny_typeOf hTs ?_)
  rw [if_pos (by decide)]
  refine wpAny_bind (applied hs pl pu ps h0 ?_)
  have hno : ¬ (((Builtin.Slice.sliceAdjust lo hi st (items.size : Int)).1 == 0 && st == 1 && Builtin.Slice.slicePlaces (Builtin.Slice.sliceAdjust lo hi st (items.size : Int)).1 (Builtin.Slice.sliceAdjust lo hi st (items.size : Int)).2 st == items.size) = true) := by
    intro q
    rw [Bool.and_eq_true, Bool.and_eq_true] at q
    exact h1 (eq_of_beq q.1.2)
  show wpAny _ _ (if ((Builtin.Slice.sliceAdjust lo hi st (items.size : Int)).1 == 0 && st == 1 && Builtin.Slice.slicePlaces (Builtin.Slice.sliceAdjust lo hi st (items.size : Int)).1 (Builtin.Slice.sliceAdjust lo hi st (items.size : Int)).2 st == items.size) = true then _ else _) _ _ s
  rw [if_neg hno]
  have e : ((List.range (Builtin.Slice.slicePlaces (Builtin.Slice.sliceAdjust lo hi st (items.size : Int)).1 (Builtin.Slice.sliceAdjust lo hi st (items.size : Int)).2 st)).filterMap fun (m : Nat) => items[((Builtin.Slice.sliceAdjust lo hi st (items.size : Int)).1 + (m : Int) * st).toNat]?) = pick items.toList lo hi st := by
    unfold pick
    rw [Array.length_toList]
    congr 1
    funext m
    rw [Array.getElem?_toList]
  rw [e]
  first
    | exact wpAny_bind (m := Builtin.Tuple.tupleExact _) (wpAny_newObj_type (wpAny_pure ⟨_, rfl, wpAny_pure h⟩) htake)
    | exact wpAny_bind (m := Builtin.Tuple.tupleExact _) (wpAny_newObj_type (wpAny_bind (wpAny_pure (wpAny_pure ⟨_, rfl, wpAny_pure h⟩))) htake)
    | exact wpAny_bind (wpAny_bind (m := Builtin.Tuple.tupleExact _) (wpAny_newObj_type (wpAny_pure (wpAny_pure ⟨_, rfl, wpAny_pure h⟩)) htake))
    | exact wpAny_bind (wpAny_bind (m := Builtin.Tuple.tupleExact _) (wpAny_newObj_type (wpAny_pure ⟨_, rfl, wpAny_pure h⟩) htake))
end
theorem fm_get {xs : List V} {us : List Value} (r : Vals xs us) (f : Nat → Nat) : ∀ l : List Nat, Vals (l.filterMap fun m => xs[f m]?) (l.filterMap fun m => us[f m]?)
  | [] => .nil
  | m :: t => by
    have ih := fm_get r f t
    rw [List.filterMap_cons, List.filterMap_cons]
    cases e : xs[f m]? with
    | none =>
      rw [r.none_of e]
      exact ih
    | some x =>
      obtain ⟨u, hu, hx⟩ := r.get e
      rw [hu]
      exact .cons hx ih
theorem pick_vals {xs : List V} {us : List Value} (r : Vals xs us) (lo hi : Option Int) (st : Int) : Vals (pick xs lo hi st) (pick us lo hi st) := by
  unfold pick
  rw [← r.length]
  exact fm_get r _ _
def tStep (K : PySem.W.Frag) (te : TE) (tl th ts : TO) : TE := fun σ H Q => te σ H fun x H1 => tl σ H1 fun l H2 => th σ H2 fun u H3 => ts σ H3 fun o H4 => ∃ a xs st, x = .ref a ∧ o = some st ∧ st ≠ 0 ∧ st ≠ 1 ∧ SqT K H4 a xs ∧ (pick xs l u st).length ≤ sizeLine ∧
  ∀ p, H4 p = none → Q (.ref p) (upd H4 p (.tup (pick xs l u st)))
theorem pe_step {X : Cx} {K : PySem.W.Frag} {e : Expr} {te : TE} {lo hi : Option Expr} {sx : Expr} {tl th ts : TO} {p3 pos : Pos} (hK : X.K = K) (he : PE X e te) (hl : PO X lo tl) (hu : PO X hi th) (hst : PO X (some sx) ts) : PE X (.Subscript e (.Slice lo hi (some sx) p3) pos) (tStep K te tl th ts) := by
  subst hK
  refine ⟨fun pins s σ H Q I h => ?_⟩
  refine Subscript_ (thn (he.run pins s σ H _ I h) fun v s1 ⟨x, H1, I1, r1, q1⟩ => ?_)
  refine wpAny_Slice (thn (hl.run pins s1 σ H1 _ I1 q1) fun vl s2 ⟨l, H2, I2, pl, q2⟩ => thn (hu.run pins s2 σ H2 _ I2 q2) fun vu s3 ⟨u, H3, I3, pu, q3⟩ => ?_)
  refine thn (hst.run pins s3 σ H3 _ I3 q3) fun vs s4 ⟨o, H4, I4, ps, q4⟩ => ?_
  obtain ⟨a, xs, st, ex, eo, h0, h1, hx, hz, q⟩ := q4
  subst ex eo
  cases r1
  have I5 : Inv X pins σ H4 { s4 with heap := s4.heap.push { cls := .type "slice", data := .fields #[vl, vu, vs] } } := I4.kept (t' := s4.toks) fun b ob q => Heap.get?_push_of_some _ q
  obtain ⟨its, r, ht, hzz⟩ := I5.tuple hx
  show wpAny (model X.prog X.w) X.A (subscriptTail e (.Slice lo hi (some sx) p3) (.ref a) (.ref s4.heap.objs.size)) (EP X pins σ Q) X.xe { s4 with heap := s4.heap.push { cls := .type "slice", data := .fields #[vl, vu, vs] } }
  refine tail_any (ops := [.ref a, .ref s4.heap.objs.size]) ht.typeIs PyProof.Rows.slot_tuple_getitem.lookup ?_ (by with_unfolding_all rfl)
  have rp := pick_vals r l u st
  have e1 : its.toArray.toList = its := by simp
  refine getItem_step ht (Heap.IsSliceOf.new _ vl vu vs) pl pu ps h0 h1 (by rw [e1, ← rp.length]; exact hz) ?_
  rw [e1]
  refine ⟨.ref _, _, I5.laid (t' := s4.toks) (o := .tup (pick xs l u st)) (fun b ob q => Heap.get?_push_of_some _ q) (Nat.le_refl _) ?_, rfl, q _ (I5.hok.fresh (Nat.le_refl _))⟩
  exact ⟨hz, _, rp, ⟨_, Heap.get?_push_size _ rfl, rfl, _, rfl⟩⟩
end SL

set_option Elab.async false
set_option linter.all false
set_option maxRecDepth 100000
set_option maxHeartbeats 2000000
/-! data, and what is evaluated to some data -/
namespace DT
open PySem PySem.Spec PyProof.Rows L2 HK
/-- the kind's name -/
def tyN : PyData → String
  | .none => "NoneType"
  | .bool _ => "bool"
  | .int _ => "int"
  | .str _ => "str"
  | .list _ => "list"
  | .tuple _ => "tuple"
  | .dict _ => "dict"
def isTup : PyData → Bool
  | .tuple _ => true
  | _ => false
def isLst : PyData → Bool
  | .list _ => true
  | _ => false
def isStr : PyData → Bool
  | .str _ => true
  | _ => false
def isBl : PyData → Bool
  | .bool _ => true
  | _ => false
def isIntB : PyData → Bool
  | .int _ => true
  | .bool _ => true
  | _ => false
theorem kit_tup : ∀ d : PyData, kitB (tyN d) "tuple" = some (isTup d)
  | .none => show kitB "NoneType" "tuple" = some false by decide +kernel
  | .bool _ => show kitB "bool" "tuple" = some false by decide +kernel
  | .int _ => show kitB "int" "tuple" = some false by decide +kernel
  | .str _ => show kitB "str" "tuple" = some false by decide +kernel
  | .list _ => show kitB "list" "tuple" = some false by decide +kernel
  | .tuple _ => show kitB "tuple" "tuple" = some true by decide +kernel
  | .dict _ => show kitB "dict" "tuple" = some false by decide +kernel
theorem kit_lst : ∀ d : PyData, kitB (tyN d) "list" = some (isLst d)
  | .none => show kitB "NoneType" "list" = some false by decide +kernel
  | .bool _ => show kitB "bool" "list" = some false by decide +kernel
  | .int _ => show kitB "int" "list" = some false by decide +kernel
  | .str _ => show kitB "str" "list" = some false by decide +kernel
  | .list _ => show kitB "list" "list" = some true by decide +kernel
  | .tuple _ => show kitB "tuple" "list" = some false by decide +kernel
  | .dict _ => show kitB "dict" "list" = some false by decide +kernel
theorem kit_str : ∀ d : PyData, kitB (tyN d) "str" = some (isStr d)
  | .none => show kitB "NoneType" "str" = some false by decide +kernel
  | .bool _ => show kitB "bool" "str" = some false by decide +kernel
  | .int _ => show kitB "int" "str" = some false by decide +kernel
  | .str _ => show kitB "str" "str" = some true by decide +kernel
  | .list _ => show kitB "list" "str" = some false by decide +kernel
  | .tuple _ => show kitB "tuple" "str" = some false by decide +kernel
  | .dict _ => show kitB "dict" "str" = some false by decide +kernel
theorem kit_bool : ∀ d : PyData, kitB (tyN d) "bool" = some (isBl d)
  | .none => show kitB "NoneType" "bool" = some false by decide +kernel
  | .bool _ => show kitB "bool" "bool" = some true by decide +kernel
  | .int _ => show kitB "int" "bool" = some false by decide +kernel
  | .str _ => show kitB "str" "bool" = some false by decide +kernel
  | .list _ => show kitB "list" "bool" = some false by decide +kernel
  | .tuple _ => show kitB "tuple" "bool" = some false by decide +kernel
  | .dict _ => show kitB "dict" "bool" = some false by decide +kernel
theorem kit_int : ∀ d : PyData, kitB (tyN d) "int" = some (isIntB d)
  | .none => show kitB "NoneType" "int" = some false by decide +kernel
  | .bool _ => show kitB "bool" "int" = some true by decide +kernel
  | .int _ => show kitB "int" "int" = some true by decide +kernel
  | .str _ => show kitB "str" "int" = some false by decide +kernel
  | .list _ => show kitB "list" "int" = some false by decide +kernel
  | .tuple _ => show kitB "tuple" "int" = some false by decide +kernel
  | .dict _ => show kitB "dict" "int" = some false by decide +kernel
theorem ite_f {b : Bool} {A B : Prop} (e : b = false) (h : B) : if b = true then A else B := by
  subst e
  exact iteF h
theorem ite_t {b : Bool} {A B : Prop} (e : b = true) (h : A) : if b = true then A else B := by
  subst e
  exact iteT h
theorem ite_nf {b : Bool} {A B : Prop} (e : b = false) (h : A) : if (!b) = true then A else B := by
  subst e
  exact iteT h
theorem ite_nt {b : Bool} {A B : Prop} (e : b = true) (h : B) : if (!b) = true then A else B := by
  subst e
  exact iteF h
section
variable {K : PySem.W.Frag} {tb : List Addr} {H H' : Hp} {v : V} {d : PyData}
theorem ty_L {a : Addr} {xs : List V} (h : SqL K H a xs) : TyX K H (.ref a) (.type "list") := by
  rcases h with (h | ⟨o, h⟩) | ⟨o, its, n, h1, h2, _⟩
  · exact .base (.lst h)
  · exact .base (.frz h)
  · exact .kList h1 h2
theorem ty_T {a : Addr} {xs : List V} (h : SqT K H a xs) : TyX K H (.ref a) (.type "tuple") := by
  rcases h with (h | ⟨o, h⟩) | ⟨o, its, n, h1, h2, _⟩
  · exact .base (.tup h)
  · exact .fTuple h
  · exact .kTuple h1 h2
theorem Dp_ty (h : Dp K H v d) : TyX K H v (.type (tyN d)) := by
  cases h with
  | non => exact .base .non
  | bl b => exact .base (.bl b)
  | int i => exact .base (.int i)
  | str x => exact .base (.str x)
  | lst h _ => exact ty_L h
  | tup h _ => exact ty_T h
mutual
theorem Dp_ext (e : Ext tb [] H H') (hT : Tabs tb H) : ∀ (d : PyData) {v : V}, Dp K H v d → Dp K H' v d
  | .none, _, .non => .non
  | .bool b, _, .bl _ => .bl b
  | .int i, _, .int _ => .int i
  | .str s, _, .str _ => .str s
  | .list ds, _, .lst h a => .lst (e.sqL hT h (by simp)) (DpAll_ext e hT ds a)
  | .tuple ds, _, .tup h a => .tup (e.sqT hT h (by simp)) (DpAll_ext e hT ds a)
theorem DpAll_ext (e : Ext tb [] H H') (hT : Tabs tb H) : ∀ (ds : List PyData) {vs : List V}, DpAll K H vs ds → DpAll K H' vs ds
  | [], _, .nil => .nil
  | d :: ds, _, .cons h t => .cons (Dp_ext e hT d h) (DpAll_ext e hT ds t)
end
theorem DpAll_len : ∀ {vs : List V} {ds : List PyData}, DpAll K H vs ds → vs.length = ds.length
  | _, _, .nil => rfl
  | _, _, .cons _ t => by rw [List.length_cons, List.length_cons, DpAll_len t]
theorem DpAll_get : ∀ {vs : List V} {ds : List PyData} {i : Nat} {v : V}, DpAll K H vs ds → vs[i]? = some v → ∃ d, ds[i]? = some d ∧ Dp K H v d
  | _, _, _, _, .nil, e => by simp at e
  | _, _, 0, _, .cons h _, e => by
    simp at e
    subst e
    exact ⟨_, rfl, h⟩
  | _, _, i + 1, v, .cons _ t, e => by
    obtain ⟨d, h1, h2⟩ := DpAll_get (i := i) (v := v) t (by simpa using e)
    exact ⟨d, by simpa using h1, h2⟩
theorem DpAll_ints : ∀ {vs : List V} {ns : List Int}, DpAll K H vs (ns.map PyData.int) → vs = ns.map V.int
  | _, [], .nil => rfl
  | _, n :: r, .cons (.int _) t => by rw [DpAll_ints t] <;> rfl
theorem DpAll_two {vs : List V} {ds : List PyData} (h : DpAll K H vs ds) (hl : vs.length = 2) : ∃ x0 x1 d0 d1, vs = [x0, x1] ∧ ds = [d0, d1] ∧ Dp K H x0 d0 ∧ Dp K H x1 d1 := by
  cases h with
  | nil => cases hl
  | cons k0 h =>
    cases h with
    | nil => cases hl
    | cons k1 h =>
      cases h with
      | nil => exact ⟨_, _, _, _, rfl, rfl, k0, k1⟩
      | cons _ _ => simp at hl
/-- data, or some dict -/
def AnyD (K : PySem.W.Frag) (H : Hp) (v : V) (d : PyData) : Prop := Dp K H v d ∨ ∃ a kvs, v = .ref a ∧ H a = some (.dK kvs) ∧ d = .dict []
theorem AnyD_ty (h : AnyD K H v d) : TyX K H v (.type (tyN d)) := by
  rcases h with h | ⟨a, kvs, rfl, h, rfl⟩
  · exact Dp_ty h
  · exact .base (.dK h)
theorem AnyD_ext (e : Ext tb [] H H') (hT : Tabs tb H) (h : AnyD K H v d) : AnyD K H' v d := by
  rcases h with h | ⟨a, kvs, h1, h2, h3⟩
  · exact .inl (Dp_ext e hT d h)
  · exact .inr ⟨a, kvs, h1, e.dK hT h2 (by simp), h3⟩
theorem AnyD_tup {ds : List PyData} (h : AnyD K H v (.tuple ds)) : ∃ a vs, v = .ref a ∧ SqT K H a vs ∧ DpAll K H vs ds := by
  rcases h with h | ⟨a, kvs, h1, h2, h3⟩
  · cases h with
    | tup h1 h2 => exact ⟨_, _, rfl, h1, h2⟩
  · cases h3
end
/-! ### what evaluates to a value of which G holds, the tables tb growing -/
section
variable {K : PySem.W.Frag} {tb : List Addr} {σ : L2.St} {H : Hp}
def Gv (tb : List Addr) (te : TE) (σ : L2.St) (H : Hp) (G : Hp → V → Prop) : Prop := ∀ H1, Ext tb [] H H1 → ∀ Q : VK, (∀ v H2, Ext tb [] H1 H2 → G H2 v → Q v H2) → te σ H1 Q
def Ga (tb : List Addr) (ta : TA) (σ : L2.St) (H : Hp) (G : Hp → List V → Prop) : Prop := ∀ H1, Ext tb [] H H1 → ∀ Q : List V → Hp → Prop, (∀ vs H2, Ext tb [] H1 H2 → G H2 vs → Q vs H2) → ta σ H1 Q
abbrev GI (P : Int → Prop) : Hp → V → Prop := fun _ v => ∃ i, v = .int i ∧ P i
abbrev GD (K : PySem.W.Frag) : Hp → V → Prop := fun H v => ∃ d, Dp K H v d
abbrev GAny (K : PySem.W.Frag) : Hp → V → Prop := fun H v => ∃ d, AnyD K H v d
theorem Gv.imp {te : TE} {G G' : Hp → V → Prop} (h : Gv tb te σ H G) (w : ∀ H v, G H v → G' H v) : Gv tb te σ H G' := fun H1 e Q q => h H1 e Q fun v H2 e2 g => q v H2 e2 (w H2 v g)
theorem Gv.any {te : TE} (h : Gv tb te σ H (GD K)) : Gv tb te σ H (GAny K) := h.imp fun _ _ ⟨d, g⟩ => ⟨d, .inl g⟩
theorem Gv.int {te : TE} {P : Int → Prop} (h : Gv tb te σ H (GI P)) : Gv tb te σ H (GD K) := h.imp fun _ _ ⟨i, e, _⟩ => ⟨.int i, e ▸ .int i⟩
theorem gv_var {i : Nat} {v : V} {G : Hp → V → Prop} (h : σ[i]? = some (some v)) (g : ∀ H1, Ext tb [] H H1 → G H1 v) : Gv tb (tVar i) σ H G := fun H1 e Q q => ⟨v, h, q v H1 Ext.refl (g H1 e)⟩
theorem gv_c {v : V} {G : Hp → V → Prop} (g : ∀ H1, G H1 v) : Gv tb (tC v) σ H G := fun H1 _ Q q => q v H1 Ext.refl (g H1)
theorem gv_ci {i : Int} : Gv tb (tC (.int i)) σ H (GD K) := gv_c fun _ => ⟨_, .int i⟩
theorem gv_cn : Gv tb (tC .non) σ H (GD K) := gv_c fun _ => ⟨_, .non⟩
theorem gv_cb {b : Bool} : Gv tb (tC (.bl b)) σ H (GD K) := gv_c fun _ => ⟨_, .bl b⟩
theorem gv_cs {s : Str} : Gv tb (tC (.str s)) σ H (GD K) := gv_c fun _ => ⟨_, .str s⟩
theorem gv_d {i : Nat} {v : V} {d : PyData} (hT : Tabs tb H) (h : σ[i]? = some (some v)) (g : Dp K H v d) : Gv tb (tVar i) σ H (GD K) := gv_var h fun H1 e => ⟨d, Dp_ext e hT d g⟩
theorem gv_i {i : Nat} {n : Int} {P : Int → Prop} (h : σ[i]? = some (some (.int n))) (g : P n) : Gv tb (tVar i) σ H (GI P) := gv_var h fun _ _ => ⟨n, rfl, g⟩
theorem ga_nil {G : Hp → List V → Prop} (g : ∀ H1, G H1 []) : Ga tb tNil σ H G := fun H1 _ Q q => q [] H1 Ext.refl (g H1)
/-- items that are data, n of them -/
abbrev GDs (K : PySem.W.Frag) (n : Nat) : Hp → List V → Prop := fun H vs => vs.length = n ∧ ∃ ds, DpAll K H vs ds
theorem ga_nilD : Ga tb tNil σ H (GDs K 0) := ga_nil fun _ => ⟨rfl, [], .nil⟩
theorem ga_consD {te : TE} {ta : TA} {n : Nat} (hT : Tabs tb H) (h : Gv tb te σ H (GD K)) (t : Ga tb ta σ H (GDs K n)) : Ga tb (tCons te ta) σ H (GDs K (n + 1)) := fun H1 e Q q =>
  h H1 e _ fun v H2 e2 ⟨d, hd⟩ => t H2 (e.trans e2) _ fun vs H3 e3 ⟨hl, ds, hds⟩ => q (v :: vs) H3 (e2.trans e3) ⟨by rw [List.length_cons, hl], d :: ds, .cons (Dp_ext e3 ((e.trans e2).tabs hT) d hd) hds⟩
abbrev GAs (K : PySem.W.Frag) (n : Nat) : Hp → List V → Prop := fun H vs => vs.length = n ∧ ∀ v ∈ vs, ∃ d, AnyD K H v d
theorem ga_nilA : Ga tb tNil σ H (GAs K 0) := ga_nil fun _ => ⟨rfl, fun v hv => by cases hv⟩
theorem ga_consA {te : TE} {ta : TA} {n : Nat} (hT : Tabs tb H) (h : Gv tb te σ H (GAny K)) (t : Ga tb ta σ H (GAs K n)) : Ga tb (tCons te ta) σ H (GAs K (n + 1)) := fun H1 e Q q =>
  h H1 e _ fun v H2 e2 ⟨d, hd⟩ => t H2 (e.trans e2) _ fun vs H3 e3 ⟨hl, hds⟩ => q (v :: vs) H3 (e2.trans e3) ⟨by rw [List.length_cons, hl], fun x hx => by
    rcases List.mem_cons.mp hx with rfl | hx
    · exact ⟨d, AnyD_ext e3 ((e.trans e2).tabs hT) hd⟩
    · exact hds x hx⟩
theorem gv_tup {ta : TA} {n : Nat} (hT : Tabs tb H) (hn : n ≤ 100000) (h : Ga tb ta σ H (GDs K n)) : Gv tb (tTup ta) σ H (GD K) := fun H1 e Q q =>
  h H1 e _ fun vs H2 e2 ⟨hl, ds, hds⟩ => ⟨by rw [hl]; exact line_of hn, fun p np => by
    have e3 : Ext tb [] H2 (upd H2 p (.tup vs)) := Ext.new ((e.trans e2).tabs hT) np
    exact q _ _ (e2.trans e3) ⟨.tuple ds, .tup (SqT.of upd_same) (DpAll_ext e3 ((e.trans e2).tabs hT) ds hds)⟩⟩
theorem gv_lst {ta : TA} {n : Nat} (hT : Tabs tb H) (hn : n ≤ 100000) (h : Ga tb ta σ H (GDs K n)) : Gv tb (tLst ta) σ H (GD K) := fun H1 e Q q =>
  h H1 e _ fun vs H2 e2 ⟨hl, ds, hds⟩ => ⟨by rw [hl]; exact line_of hn, fun p np => by
    have e3 : Ext tb [] H2 (upd H2 p (.lst vs)) := Ext.new ((e.trans e2).tabs hT) np
    exact q _ _ (e2.trans e3) ⟨.list ds, .lst (SqL.of upd_same) (DpAll_ext e3 ((e.trans e2).tabs hT) ds hds)⟩⟩
theorem gv_op {ta te : TE} {g : Int → Int → Int} {P P1 P2 : Int → Prop} (ha : Gv tb ta σ H (GI P1)) (hb : Gv tb te σ H (GI P2)) (hp : ∀ i j, P1 i → P2 j → P (g i j)) : Gv tb (tOp (rI0 fun i j => .int (g i j)) ta te) σ H (GI P) := fun H1 e Q q =>
  ha H1 e _ fun _ H2 e2 ⟨i, ei, hi⟩ => hb H2 (e.trans e2) _ fun _ H3 e3 ⟨j, ej, hj⟩ => ⟨i, j, ei, ej, q _ H3 (e2.trans e3) ⟨_, rfl, hp i j hi hj⟩⟩
theorem gv_opC {ta te : TE} {C : Int → Int → Prop} {g : Int → Int → Int} {P P1 P2 : Int → Prop} (ha : Gv tb ta σ H (GI P1)) (hb : Gv tb te σ H (GI P2)) (hc : ∀ i j, P1 i → P2 j → C i j) (hp : ∀ i j, P1 i → P2 j → P (g i j)) : Gv tb (tOp (rI C fun i j => .int (g i j)) ta te) σ H (GI P) := fun H1 e Q q =>
  ha H1 e _ fun _ H2 e2 ⟨i, ei, hi⟩ => hb H2 (e.trans e2) _ fun _ H3 e3 ⟨j, ej, hj⟩ => ⟨i, j, ei, ej, hc i j hi hj, q _ H3 (e2.trans e3) ⟨_, rfl, hp i j hi hj⟩⟩
theorem gv_k {n : Int} {P : Int → Prop} (h : P n) : Gv tb (tC (.int n)) σ H (GI P) := gv_c fun _ => ⟨n, rfl, h⟩
end
/-! ### tuples joined, cut: somewhere there is such a tuple -/
section
variable {K : PySem.W.Frag} {tb : List Addr} {H : Hp} {a b : Addr} {xs ys : List V} {Q : VK}
theorem cat_rd (hT : Tabs tb H) (hx : SqT K H a xs) (hy : SqT K H b ys) (hz : xs.length + ys.length ≤ 100000) (q : ∀ p H', Ext tb [] H H' → SqT K H' p (xs ++ ys) → Q (.ref p) H') : rCatA K (.ref a) (.ref b) H Q := by
  refine ⟨a, b, xs, ys, rfl, rfl, hx, hy, line_of hz, fun e => ?_, fun _ e => ?_, fun _ _ p np => ?_⟩
  · subst e
    exact q b H Ext.refl hy
  · subst e
    refine q a H Ext.refl ?_
    rw [List.append_nil]
    exact hx
  · exact q p _ (Ext.new hT np) (SqT.of upd_same)
theorem cut_rd {lo hi : Option Int} (hT : Tabs tb H) (hx : SqT K H a xs) (q : ∀ p H', Ext tb [] H H' → SqT K H' p (cutV xs lo hi) → Q (.ref p) H') : rSlA K (.ref a) lo hi H Q := by
  refine ⟨a, xs, rfl, hx, fun hw => ?_, fun _ p np => ?_⟩
  · refine q a H Ext.refl ?_
    have : cutV xs lo hi = xs := by
      unfold cutV
      rw [hw.1, hw.2, List.drop_zero, Nat.sub_zero, List.take_length]
    rw [this]
    exact hx
  · exact q p _ (Ext.new hT np) (SqT.of upd_same)
end
theorem cut_to {α : Type} (f : α → V) (l : List α) (n : Nat) (h : n ≤ l.length) : cutV (l.map f) none (some (n : Int)) = (l.take n).map f := by
  unfold cutV
  rw [HT.sIx_nat, HT.sIx_none, List.drop_zero, Nat.sub_zero, List.length_map, List.map_take, Nat.min_eq_left h]
theorem cut_from {α : Type} (f : α → V) (l : List α) (n : Nat) : cutV (l.map f) (some (n : Int)) none = (l.drop n).map f := by
  unfold cutV
  rw [HT.sIx_nat, HT.sIx_none, List.length_map, List.map_drop]
  rcases Nat.le_total n l.length with h | h
  · rw [Nat.min_eq_left h]
    exact List.take_of_length_le (by rw [List.length_drop, List.length_map]; exact Nat.le_refl _)
  · rw [Nat.min_eq_right h, Nat.sub_self, List.take_zero]
    symm
    exact List.drop_eq_nil_of_le (by rw [List.length_map]; exact h)
end DT

set_option Elab.async false
set_option linter.all false
set_option maxRecDepth 100000
set_option maxHeartbeats 2000000
/-! data with dicts anywhere in it; such a thing == a text, in a row of texts -/
namespace PySem
namespace SeqAt
open PySem.AutoSeq1 (wpAny_loadPart')
open PySem.MeetsSeq PySem.MeetsSeq2 PySem.MeetsSeq3
theorem dict_declines_str (l : Addr) (es : Array DictEntry) (ep : Nat) (dd : Option Addr) (sl : Array (Option Value)) (b : Str) (u : Tok) :
    Meets (Builtin.«dict.__eq__» ⟨[.ref l, .str b u], []⟩) (fun _ R s => s.heap.get? l = some { cls := .type "dict", dict := dd, data := .dict es ep, slots := sl } ∧ R (.ok (.ret .notImplemented)) s) :=
  .of_wp fun prog w A R s h => by obtain ⟨hp, g, d, tk, os⟩ := s; obtain ⟨hl, h⟩ := h; have f1 := F.sub_str_dict; wp_walk using wpAny_loadPart' hl, wpAny_load hl; exact ⟨_, rfl, h⟩
theorem str_declines_dict (b : Str) (u : Tok) (l : Addr) (es : Array DictEntry) (ep : Nat) (dd : Option Addr) (sl : Array (Option Value)) :
    Meets (Builtin.«str.__eq__» ⟨[.str b u, .ref l], []⟩) (fun _ R s => s.heap.get? l = some { cls := .type "dict", dict := dd, data := .dict es ep, slots := sl } ∧ R (.ok (.ret .notImplemented)) s) :=
  .of_wp fun prog w A R s h => by obtain ⟨hp, g, d, tk, os⟩ := s; obtain ⟨hl, h⟩ := h; wp_walk using wpAny_loadPart' hl, wpAny_load hl; exact ⟨_, rfl, h⟩
section
variable {A : Around} {s : Shared}
theorem Rc_dict_str {l : Addr} {es : Array DictEntry} {ep : Nat} {dd : Option Addr} {sl : Array (Option Value)} (b : Str) (u : Tok) (ho : s.heap.get? l = some { cls := .type "dict", dict := dd, data := .dict es ep, slots := sl }) (hu : A.units < cLine) : RcAt A s (.ref l) (.str b u) false := fun prog w E Q h => by
  exact rc_eq_decline_or (k := false) ⟨_, ho, rfl⟩ (typeIs_str s b u) (by decide) F.sub_str_dict F.slot_dict_eq F.slot_str_eq_refl
    (fun _ hq => call_meets F.slot_dict_eq ⟨_, ho, rfl⟩ F.entry_dict_eq (F.args_dict_eq_2 _ _) (dict_declines_str l es ep dd sl b u) ⟨ho, hq⟩)
    (fun _ hq => call_meets F.slot_str_eq_refl (typeIs_str s b u) F.entry_str_eq (F.args_str_eq_2 _ _) (str_declines_dict b u l es ep dd sl) ⟨ho, hq⟩)
    (fun _ hq => wpAny_of_eq (rfl : isSame (.ref l) (.str b u) = pure false) hq) (.inr hu) h
theorem Rc_str_dict {l : Addr} {es : Array DictEntry} {ep : Nat} {dd : Option Addr} {sl : Array (Option Value)} (b : Str) (u : Tok) (ho : s.heap.get? l = some { cls := .type "dict", dict := dd, data := .dict es ep, slots := sl }) (hu : A.units < cLine) : RcAt A s (.str b u) (.ref l) false := fun prog w E Q h => by
  exact rc_eq_decline_or (k := false) (typeIs_str s b u) ⟨_, ho, rfl⟩ (by decide) F.sub_dict_str F.slot_str_eq F.slot_dict_eq_refl
    (fun _ hq => call_meets F.slot_str_eq (typeIs_str s b u) F.entry_str_eq (F.args_str_eq_2 _ _) (str_declines_dict b u l es ep dd sl) ⟨ho, hq⟩)
    (fun _ hq => call_meets F.slot_dict_eq_refl ⟨_, ho, rfl⟩ F.entry_dict_eq (F.args_dict_eq_2 _ _) (dict_declines_str l es ep dd sl b u) ⟨ho, hq⟩)
    (fun _ hq => wpAny_of_eq (rfl : isSame (.str b u) (.ref l) = pure false) hq) (.inr hu) h
theorem Eq_str_dict {l : Addr} {es : Array DictEntry} {ep : Nat} {dd : Option Addr} {sl : Array (Option Value)} (b : Str) (u : Tok) (ho : s.heap.get? l = some { cls := .type "dict", dict := dd, data := .dict es ep, slots := sl }) (hu : A.units < cLine) : EqAt A s (.str b u) (.ref l) false := fun prog w E Q h => by
  unfold eqBool
  refine wpAny_holding ?_
  refine wpAny_ite_split (fun hab => absurd (eq_of_beq hab) nofun) (fun _ => ?_)
  exact wpAny_bind (Rc_str_dict b u ho hu prog w E _ (wpAny_truthy_bool h))
end
end SeqAt
end PySem
namespace DT
open PySem PySem.Spec PyProof.Rows L2 HK
mutual
inductive Rp (K : PySem.W.Frag) (H : Hp) : V → PyData → Prop
  | non : Rp K H .non .none
  | bl (b : Bool) : Rp K H (.bl b) (.bool b)
  | int (i : Int) : Rp K H (.int i) (.int i)
  | str (x : Str) : Rp K H (.str x) (.str x)
  | lst {a : Addr} {xs : List V} {ds : List PyData} : SqL K H a xs → RpAll K H xs ds → Rp K H (.ref a) (.list ds)
  | tup {a : Addr} {xs : List V} {ds : List PyData} : SqT K H a xs → RpAll K H xs ds → Rp K H (.ref a) (.tuple ds)
  | dct {a : Addr} {kvs : List (Key × V)} : H a = some (.dK kvs) → Rp K H (.ref a) (.dict [])
inductive RpAll (K : PySem.W.Frag) (H : Hp) : List V → List PyData → Prop
  | nil : RpAll K H [] []
  | cons {v : V} {vs : List V} {d : PyData} {ds : List PyData} : Rp K H v d → RpAll K H vs ds → RpAll K H (v :: vs) (d :: ds)
end
section
variable {K : PySem.W.Frag} {tb : List Addr} {H H' : Hp} {v : V} {d : PyData}
theorem Rp_ty (h : Rp K H v d) : TyX K H v (.type (tyN d)) := by
  cases h with
  | non => exact .base .non
  | bl b => exact .base (.bl b)
  | int i => exact .base (.int i)
  | str x => exact .base (.str x)
  | lst h _ => exact ty_L h
  | tup h _ => exact ty_T h
  | dct h => exact .base (.dK h)
mutual
theorem Rp_ext (e : Ext tb [] H H') (hT : Tabs tb H) : ∀ (d : PyData) {v : V}, Rp K H v d → Rp K H' v d
  | .none, _, .non => .non
  | .bool b, _, .bl _ => .bl b
  | .int i, _, .int _ => .int i
  | .str s, _, .str _ => .str s
  | .list ds, _, .lst h a => .lst (e.sqL hT h (by simp)) (RpAll_ext e hT ds a)
  | .tuple ds, _, .tup h a => .tup (e.sqT hT h (by simp)) (RpAll_ext e hT ds a)
  | .dict _, _, .dct h => .dct (e.dK hT h (by simp))
theorem RpAll_ext (e : Ext tb [] H H') (hT : Tabs tb H) : ∀ (ds : List PyData) {vs : List V}, RpAll K H vs ds → RpAll K H' vs ds
  | [], _, .nil => .nil
  | d :: ds, _, .cons h t => .cons (Rp_ext e hT d h) (RpAll_ext e hT ds t)
end
theorem RpAll_len : ∀ {vs : List V} {ds : List PyData}, RpAll K H vs ds → vs.length = ds.length
  | _, _, .nil => rfl
  | _, _, .cons _ t => by rw [List.length_cons, List.length_cons, RpAll_len t]
theorem RpAll_get : ∀ {vs : List V} {ds : List PyData} {i : Nat} {v : V}, RpAll K H vs ds → vs[i]? = some v → ∃ d, ds[i]? = some d ∧ Rp K H v d
  | _, _, _, _, .nil, e => by simp at e
  | _, _, 0, _, .cons h _, e => by
    simp at e
    subst e
    exact ⟨_, rfl, h⟩
  | _, _, i + 1, v, .cons _ t, e => by
    obtain ⟨d, h1, h2⟩ := RpAll_get (i := i) (v := v) t (by simpa using e)
    exact ⟨d, by simpa using h1, h2⟩
theorem RpAll_app : ∀ {xs ys : List V} {cs ds : List PyData}, RpAll K H xs cs → RpAll K H ys ds → RpAll K H (xs ++ ys) (cs ++ ds)
  | _, _, _, _, .nil, t => t
  | _, _, _, _, .cons h r, t => .cons h (RpAll_app r t)
theorem RpAll_take : ∀ {xs : List V} {cs : List PyData} (k : Nat), RpAll K H xs cs → RpAll K H (xs.take k) (cs.take k)
  | _, _, 0, _ => .nil
  | _, _, _ + 1, .nil => .nil
  | _, _, k + 1, .cons h r => .cons h (RpAll_take k r)
theorem RpAll_drop : ∀ {xs : List V} {cs : List PyData} (k : Nat), RpAll K H xs cs → RpAll K H (xs.drop k) (cs.drop k)
  | _, _, 0, h => h
  | _, _, _ + 1, .nil => .nil
  | _, _, k + 1, .cons _ r => RpAll_drop k r
theorem Rp_tup {ds : List PyData} (h : Rp K H v (.tuple ds)) : ∃ a vs, v = .ref a ∧ SqT K H a vs ∧ RpAll K H vs ds := by
  cases h with
  | tup h1 h2 => exact ⟨_, _, rfl, h1, h2⟩
theorem Rp_strs : ∀ ss : List Str, RpAll K H (ss.map V.str) (ss.map PyData.str)
  | [] => .nil
  | s :: r => .cons (.str s) (Rp_strs r)
theorem Rp_ints : ∀ ss : List Int, RpAll K H (ss.map V.int) (ss.map PyData.int)
  | [] => .nil
  | s :: r => .cons (.int s) (Rp_ints r)
end
/-! ### x == 'a', x in ('a', ..) -/
def eqS (d : PyData) (s : Str) : Bool := match d with
  | .str z => z == s
  | _ => false
section
variable {X : Cx}
theorem eq_str {pins : List (Addr × Obj)} {σ : L2.St} {H : Hp} {s : Shared} {x : V} {v : Value} {d : PyData} (I : L2.Inv X pins σ H s) (hu : X.A.units + 64 < cLine) (h : Rp X.K H x d) (r : RelV x v) (b : Str) (u : Tok) : SeqAt.EqAt X.A.in1 s (.str b u) v (eqS d b) := by
  have hu1 : X.A.in1.units < cLine := by show X.A.units + 1 < cLine; omega
  cases h with
  | non =>
    cases (show v = Value.none from r)
    exact SeqAt.EqAt.str_none b u
  | bl k =>
    cases (show v = Value.bool k from r)
    exact SeqAt.EqAt.str_bool b u k
  | int i =>
    obtain ⟨t, rfl⟩ := (show ∃ t, v = Value.int i t from r)
    exact SeqAt.EqAt.str_int b u i t
  | str z =>
    obtain ⟨t, rfl⟩ := (show ∃ t, v = Value.str z t from r)
    have e : eqS (.str z) b = (b == z) := by
      show (z == b) = (b == z)
      by_cases h : z = b
      · subst h
        rfl
      · have h1 : (z == b) = false := by simpa using h
        have h2 : (b == z) = false := by simpa using fun q => h q.symm
        rw [h1, h2]
    rw [e]
    exact SeqAt.EqAt.str_str b u z t
  | @lst a xs ds hq _ =>
    cases (show v = Value.ref a from r)
    obtain ⟨its, _, pl, _⟩ := I.list hq
    exact SeqAt.EqAt.str_list b u pl.isList hu1
  | @tup a xs ds hq _ =>
    cases (show v = Value.ref a from r)
    obtain ⟨its, _, pl, _⟩ := I.tuple hq
    exact SeqAt.EqAt.str_tuple b u pl hu1
  | @dct a kvs hq =>
    cases (show v = Value.ref a from r)
    obtain ⟨_, _, vs, _, hd⟩ := I.hok a _ hq
    obtain ⟨o, es, ep, ho, hx, hdd, _⟩ := hd
    obtain ⟨cls, dd, dat, sl⟩ := o
    obtain ⟨hc, hdn, _⟩ := hx
    simp only at hc hdd
    subst hc hdd
    exact SeqAt.Eq_str_dict b u ho hu1
def rInS (K : PySem.W.Frag) : R2 := fun x y H Q => ∃ (p : Addr) (ss : List Str) (d : PyData), y = .ref p ∧ SqT K H p (ss.map V.str) ∧ Rp K H x d ∧ Q (.bl (ss.any (eqS d))) H
theorem mem_strs {pins : List (Addr × Obj)} {σ : L2.St} {H : Hp} {s : Shared} {x : V} {v : Value} {d : PyData} (I : L2.Inv X pins σ H s) (hu : X.A.units + 64 < cLine) (h : Rp X.K H x d) (r : RelV x v) :
    ∀ {ss : List Str} {us : List Value}, Vals (ss.map V.str) us → (∀ u ∈ us, SeqAt.EqAt X.A.in1 s u v (match u with | .str b _ => eqS d b | _ => false)) ∧ us.any (fun u => match u with | .str b _ => eqS d b | _ => false) = ss.any (eqS d)
  | [], _, .nil => ⟨fun u hm => (by cases hm), rfl⟩
  | b :: ss, _, .cons (⟨t, rfl⟩) tl => by
    obtain ⟨h1, h2⟩ := mem_strs I hu h r (ss := ss) tl
    refine ⟨fun u hu' => ?_, ?_⟩
    · rcases List.mem_cons.mp hu' with rfl | hu'
      · exact eq_str I hu h r b t
      · exact h1 u hu'
    · rw [List.any_cons, List.any_cons, h2]
theorem q_inS {K : PySem.W.Frag} (hK : X.K = K) (hu : X.A.units + 64 < cLine) : OpR X (compareOp .In) (rInS K) := by
  subst hK
  intro pins s σ H x y v u Q I rx ry h
  obtain ⟨p, ss, d, rfl, hq, hd, q⟩ := h
  cases ry
  obtain ⟨its, r, pl, hz⟩ := I.tuple hq
  obtain ⟨h1, h2⟩ := mem_strs I hu hd rx (ss := ss) r
  refine SeqAt.in_tupleAt (fun u => match u with | .str b _ => eqS d b | _ => false) pl (fun w hw => h1 w (by simpa using hw)) ⟨.bl _, H, I, rfl, ?_⟩
  have e : its.toArray.any (fun u => match u with | .str b _ => eqS d b | _ => false) = ss.any (eqS d) := by
    rw [← h2]
    simp
  rw [e]
  exact q
theorem rc_str {pins : List (Addr × Obj)} {σ : L2.St} {H : Hp} {s : Shared} {x : V} {v : Value} {d : PyData} (I : L2.Inv X pins σ H s) (hu : X.A.units + 64 < cLine) (h : Rp X.K H x d) (r : RelV x v) (b : Str) (u : Tok) : SeqAt.RcAt X.A s v (.str b u) (eqS d b) := by
  have hu1 : X.A.units < cLine := by omega
  cases h with
  | non =>
    cases (show v = Value.none from r)
    exact SeqAt.RcAt.none_str b u
  | bl k =>
    cases (show v = Value.bool k from r)
    exact SeqAt.RcAt.bool_str k b u
  | int i =>
    obtain ⟨t, rfl⟩ := (show ∃ t, v = Value.int i t from r)
    exact SeqAt.RcAt.int_str i t b u
  | str z =>
    obtain ⟨t, rfl⟩ := (show ∃ t, v = Value.str z t from r)
    exact SeqAt.RcAt.str_str z t b u
  | @lst a xs ds hq _ =>
    cases (show v = Value.ref a from r)
    obtain ⟨its, _, pl, _⟩ := I.list hq
    exact SeqAt.RcAt.list_str b u pl.isList hu1
  | @tup a xs ds hq _ =>
    cases (show v = Value.ref a from r)
    obtain ⟨its, _, pl, _⟩ := I.tuple hq
    exact SeqAt.RcAt.tuple_str b u pl hu1
  | @dct a kvs hq =>
    cases (show v = Value.ref a from r)
    obtain ⟨_, _, vs, _, hd⟩ := I.hok a _ hq
    obtain ⟨o, es, ep, ho, hx, hdd, _⟩ := hd
    obtain ⟨cls, dd, dat, sl⟩ := o
    obtain ⟨hc, hdn, _⟩ := hx
    simp only at hc hdd
    subst hc hdd
    exact SeqAt.Rc_dict_str b u ho hu1
theorem q_repT {K : PySem.W.Frag} (hK : X.K = K) : OpR X (binaryOp .Mult) (rRepT K) := hK ▸ op_repT
def rEqS (K : PySem.W.Frag) : R2 := fun x y H Q => ∃ (b : Str) (d : PyData), y = .str b ∧ Rp K H x d ∧ Q (.bl (eqS d b)) H
theorem q_eqS {K : PySem.W.Frag} (hK : X.K = K) (hu : X.A.units + 64 < cLine) : OpR X (compareOp .Eq) (rEqS K) := by
  subst hK
  intro pins s σ H x y v u Q I rx ry h
  obtain ⟨b, d, rfl, hd, q⟩ := h
  obtain ⟨t, rfl⟩ := ry
  exact rc_str I hu hd rx b t X.prog X.w X.xe _ ⟨.bl _, H, I, rfl, q⟩
end
end DT

set_option Elab.async false
set_option linter.all false
set_option maxRecDepth 100000
set_option maxHeartbeats 1000000
/-! sep.join(reversed(a list of texts)) -/
namespace RJ
open PySem PySem.Spec PyProof.Rows
section
variable {prog : Program} {w : World} {A : Around} {E : Value → Shared → Prop} {s : Shared}
theorem join_rev {x : Str} {t : Tok} {ys : List Str} {it l : Addr} {items : Array Value} {Q : Value → Shared → Prop} (hh : A.handled = none) (hit : s.heap.IsRevIter it l ((items.size : Int) - 1)) (hl : s.heap.IsList l items) (hne : l ≠ it) (hn : items.size ≤ sizeLine)
    (hP : ∀ acc : Array Value, ItemsOf (fun i v => items[items.size - 1 - i]? = some v) acc items.size → StrsAre acc.toList ys) (hok : (ys.map (·.length)).sum + ys.length * x.length ≤ 16777216)
    (hq : ∀ (h' : Heap) (tk : Nat), (∀ b o, b ≠ it → s.heap.get? b = some o → h'.get? b = some o) → ∀ t', Q (.str (Txt.join x ys) t') { s with heap := h', toks := tk }) :
    wpAny (model prog w) A (call (.builtin "str.join") [.str x t, .ref it]) Q E s := by
  refine wpAny_call (codeAny_call_builtin F.slot_str_join.plain F.entry_str_join (F.slot_str_join.check _ _ _ _ _ _ _ _ (typeIs_str _ _ _) (F.args_str_join_2 _ _) ?_))
  rw [join_tree_other]
  refine wpAny_bind (wpAny_typeOf hit.typeIs ?_)
  show wpAny _ A.in1 ((pyIter (.ref it)).tryCatch _ >>= fun it => collect it >>= fun items => joinTail x items) _ _ s
  refine wpAny_bind (wpAny_tryCatch (wpAny_pyIter_revIter hit ?_))
  refine wpAny_bind (RT.collect_rev (A := A.in1) hh hit hl hne hn fun h' tk acc hk hacc => ?_)
  obtain ⟨ll, hl', ht⟩ := strsAre_values (hP acc hacc)
  subst ht
  rw [hl']
  have hok' := joinOk_of hok
  unfold JoinOk at hok'
  rw [Bool.not_eq_true'] at hok'
  have g : Gives (joinTail x (strValues ll)) (joinMade x ll) := by
    have g0 := gives_joinTail x ll hok'
    cases ll with
    | nil => exact g0
    | cons p r => cases r with
      | nil => exact g0
      | cons q r' => exact g0
  exact g prog w A (wants Q E) _ (post_join ll ⟨joinFit_length hok', fun t' k => hq h' k hk t'⟩)
end
open L2
def tJoinRev (K : PySem.W.Frag) (to te : TE) : TE := fun σ H Q => to σ H fun x H1 => (∃ a, x = .str a) ∧ te σ H1 fun y H2 => ∃ (a : Str) (q : Addr) (ys : List Str),
  x = .str a ∧ y = .ref q ∧ SqL K H2 q (ys.map V.str) ∧ (ys.map (·.length)).sum + ys.length * a.length ≤ 16777216 ∧ Q (.str (Txt.join a ys.reverse)) H2
theorem strs_of : ∀ {ys : List Str} {us : List Value}, Vals (ys.map V.str) us → StrsAre us ys
  | [], _, .nil => .nil
  | y :: ys, _, .cons (⟨t, rfl⟩) tl => .cons y t (strs_of tl)
section
variable {X : Cx}
theorem pe_joinRev {o e : Expr} {to te : TE} {apos pos p2 pos2 : Pos} (hc : X.calm = true) (ho : PE X o to) (hg2 : Gl X "reversed") (hm2 : X.mg "reversed" = none) (he : PE X e te)
    (hs : starEach [e] X.env = (false, eval e X.env) :: starEach [] X.env := by rfl)
    (hs1 : starEach [.Call (.Name "reversed" p2) [e] [] pos2] X.env = [(false, eval (.Call (.Name "reversed" p2) [e] [] pos2) X.env)] := by rfl)
    (hbase : attributeBase o "join" X.env (eval o X.env) = eval o X.env := by rfl) (hline : (apos.endLine == pos.line) = true := by rfl) :
    PE X (.Call (.Attribute o "join" apos) [.Call (.Name "reversed" p2) [e] [] pos2] [] pos) (tJoinRev X.K to te) := by
  refine ⟨fun pins s σ H Q I h => ?_⟩
  refine PySem.Call_method1 hbase hs1 hline (thn (ho.run pins s σ H _ I h) fun v s1 ⟨x, H1, I1, r1, q1⟩ => ?_)
  obtain ⟨⟨a, rfl⟩, q1⟩ := q1
  obtain ⟨t, rfl⟩ := _root_.id r1
  refine ⟨"str", _, F.plainAttrs_str, F.slot_str_join, F.type_str_join, typeIs_str _ _ _, (fun _ e => nomatch e), Calls.callWith_builtin rfl (Calls.evalArgs_plain (Calls.spliced_cons ?_))⟩
  refine Call_ (ld_blt I1 hg2 hm2 PyProof.Rows.boot_reversed (PyProof.Rows.callWith_type1 (args_cons (thn (he.run pins s1 σ H1 _ I1 q1) fun u s2 ⟨y, H2, I2, r2, q2⟩ => args_nil ?_) hs) hs rfl))
  obtain ⟨a', q, ys, ea, rfl, hq, hz, q3⟩ := q2
  cases ea
  obtain rfl : u = Value.ref q := r2
  obtain ⟨its, rv, p', hsz⟩ := I2.list hq
  refine call_reversed_list p'.isList (Calls.spliced_nil ?_)
  have k0 : ∀ b o, s2.heap.get? b = some o → (s2.heap.push (revObj q ((its.toArray.size : Int) - 1))).get? b = some o := fun b o e => Heap.get?_push_of_some _ e
  have I3 : Inv X pins σ H2 { s2 with heap := s2.heap.push (revObj q ((its.toArray.size : Int) - 1)) } := I2.kept (t' := s2.toks) k0
  obtain ⟨f0, f1, f2, f3, f4, f5⟩ := I2.fpOk (H' := H2) (b := s2.heap.objs.size) (Nat.le_refl _) (I2.hok.fresh (Nat.le_refl _))
  have hl := p'.isList
  obtain ⟨ol, hol, _⟩ := id hl
  have hne : q ≠ s2.heap.objs.size := Nat.ne_of_lt (Heap.lt_size hol)
  have hn : its.toArray.size ≤ sizeLine := by rw [List.size_toArray, ← rv.length]; exact hsz
  refine join_rev (s := { s2 with heap := s2.heap.push (revObj q ((its.toArray.size : Int) - 1)) }) (ys := ys.reverse) (I2.ok.hd hc) ⟨_, Heap.get?_push_size _ rfl, rfl, rfl⟩ (hl.push _) hne hn (fun acc hacc => ?_) ?_ fun h' tk hk t' => ?_
  · have := RT.vals_rev rv hacc
    rw [← List.map_reverse] at this
    exact strs_of this
  · rw [List.map_reverse, List.sum_reverse, List.length_reverse]
    exact hz
  · exact ⟨.str _, H2, I3.turned (t' := tk) (fun b o hb e => hk b o hb e) f0 f1 f3 f4 f5, ⟨t', rfl⟩, q3⟩
theorem q_joinRev {K : PySem.W.Frag} {o e : Expr} {to te : TE} {apos pos p2 pos2 : Pos} (hK : X.K = K) (hc : X.calm = true) (ho : PE X o to) (hg2 : Gl X "reversed") (hm2 : X.mg "reversed" = none) (he : PE X e te)
    (hs : starEach [e] X.env = (false, eval e X.env) :: starEach [] X.env := by rfl)
    (hs1 : starEach [.Call (.Name "reversed" p2) [e] [] pos2] X.env = [(false, eval (.Call (.Name "reversed" p2) [e] [] pos2) X.env)] := by rfl)
    (hbase : attributeBase o "join" X.env (eval o X.env) = eval o X.env := by rfl) (hline : (apos.endLine == pos.line) = true := by rfl) :
    PE X (.Call (.Attribute o "join" apos) [.Call (.Name "reversed" p2) [e] [] pos2] [] pos) (tJoinRev K to te) := hK ▸ pe_joinRev hc ho hg2 hm2 he hs hs1 hbase hline
end
/-! x *= y, ints -/
def ipM : TIp := fun x y H Q => ∃ i j, x = .int i ∧ y = .int j ∧ CMul i j ∧ Q (.int (i * j)) H
theorem ip_mul {X : Cx} : PIp X .Mult ipM := by
  intro pins s σ H x y v u Q I r1 r2 h
  obtain ⟨i, j, e1, e2, hc, q⟩ := h
  subst e1; subst e2
  obtain ⟨t, rfl⟩ := r1
  obtain ⟨t', rfl⟩ := r2
  exact imul_int ⟨.int _, H, I.tok _, ⟨_, rfl⟩, q⟩ hc.ok
/-! zip of two lists or two tuples, K told -/
theorem q_zipA {X : Cx} {K : PySem.W.Frag} {e e2 : Expr} {ta : TA} {p pos tpos : Pos} {elts : List Expr} {kk : Nat} (hK : X.K = K) (hg : Gl X "zip") (hm : X.mg "zip" = none) (ha : PA X [e, e2] ta)
    (hs : starEach [e, e2] X.env = (false, eval e X.env) :: starEach [e2] X.env := by rfl) (hpl : (backTo pos (starEach [e2] X.env)).any (·.1) = false := by rfl) :
    PI X (.Tuple elts kk tpos) (.Call (.Name "zip" p) [e, e2] [] pos) (RZ.iZipA K ta) := hK ▸ RZ.pi_zipA hg hm ha hs hpl
theorem q_pgT {X : Cx} {K : PySem.W.Frag} {es : List Expr} {k : Nat} {t : TGs} {n : Nat} {pos : Pos} (hK : X.K = K) (hc : X.calm = true) (h : PGs X es t)
    (hn : (assignEach es X.env).length = n := by rfl) (hst : (assignEach es X.env).findIdx? (·.1) = none := by rfl) : PG X (.Tuple es k pos) (gTup K n t) := hK ▸ pg_tup hc h hn hst
end RJ

set_option Elab.async false
set_option linter.all false
set_option maxRecDepth 100000
set_option maxHeartbeats 1000000
/-! tuple * int, none and one times too -/
namespace TM
open PySem PySem.Spec PyProof.Rows L2
theorem mul_none (l : Addr) (its : Array Value) (m : Nat) (dd : Option Addr) (sl : Array (Option Value)) (u : Tok) (c1 : its.isEmpty = false) :
    Meets (Builtin.«tuple.__mul__» ⟨[.ref l, .int 0 u], []⟩) (fun _ R s => s.heap.get? l = some ⟨.type "tuple", dd, .seq its m, sl⟩ ∧ R (.ok (.ret (.ref s.heap.objs.size))) { s with heap := s.heap.push { cls := .type "tuple", data := .seq #[] } }) :=
  .of_wp fun prog w A R s h => by
    obtain ⟨hp, g, d, tk, os⟩ := s
    obtain ⟨hl, h⟩ := h
    have f1 := AutoSeq1.idx_int
    have c2 : (its.isEmpty || (0:Int) == 1) = false := by rw [c1] <;> rfl
    wp_walk using wpAny_loadPart' hl
    exact ⟨_, rfl, h⟩
theorem mul_once (l : Addr) (its : Array Value) (m : Nat) (dd : Option Addr) (sl : Array (Option Value)) (u : Tok) :
    Meets (Builtin.«tuple.__mul__» ⟨[.ref l, .int 1 u], []⟩) (fun _ R s => s.heap.get? l = some ⟨.type "tuple", dd, .seq its m, sl⟩ ∧ R (.ok (.ret (.ref l))) s) :=
  .of_wp fun prog w A R s h => by
    obtain ⟨hp, g, d, tk, os⟩ := s
    obtain ⟨hl, h⟩ := h
    have f1 := AutoSeq1.idx_int
    wp_walk using wpAny_loadPart' hl
    exact ⟨_, rfl, h⟩
def rRepN (K : PySem.W.Frag) : R2 := fun x y H Q => ∃ l k xs, x = .ref l ∧ y = .int k ∧ SqT K H l xs ∧ xs ≠ [] ∧ 0 ≤ k ∧ k ≤ 1000 ∧ xs.length ≤ 1000 ∧ ((k = 1 ∧ Q (.ref l) H) ∨ (k ≠ 1 ∧ ∀ p, H p = none → Q (.ref p) (upd H p (.tup (List.replicate k.toNat xs).flatten))))
theorem op_repN {X : Cx} : OpR X (binaryOp .Mult) (rRepN X.K) := by
  intro pins s σ H x y v u Q I rx ry h
  obtain ⟨l, k, xs, rfl, rfl, hT, hne, h0, h2, hz, q⟩ := h
  by_cases k2 : 2 ≤ k
  · refine op_repT pins s σ H _ _ _ _ Q I rx ry ⟨l, k, xs, rfl, rfl, hT, hne, k2, h2, hz, ?_⟩
    rcases q with ⟨e, _⟩ | ⟨_, q⟩
    · omega
    · exact q
  cases rx
  obtain ⟨t, rfl⟩ := ry
  obtain ⟨its, r, ⟨⟨cls, dd, data, sl⟩, ho, hc, m, hd⟩, hs⟩ := I.tuple hT
  simp only at hc hd
  subst hc hd
  have it0 : its.toArray.isEmpty = false := by
    cases its with
    | cons a b => rfl
    | nil =>
      cases r
      exact absurd rfl hne
  have tyI : ∀ s' : Shared, s'.TypeIs (.int k t) "int" := fun s' => typeIs_int s' k t
  rcases q with ⟨rfl, q⟩ | ⟨hk, q⟩
  · exact wpAny_binaryOp_repeat_ref (T := "tuple") (U := "int") (by decide) ⟨_, ho, rfl⟩ tyI noFill_tuple_mul F.fills_int_mul F.slot_int_rmul repeat_tuple F.slot_int_index.lookup
      (call_meets F.slot_int_rmul (tyI s) F.entry_int_rmul (F.args_int_rmul_2 _ _) (int_rmul_tuple 1 t l its.toArray m dd sl) ⟨ho, rfl, ⟨_, ho, rfl⟩, call_meets F.slot_tuple_mul ⟨_, ho, rfl⟩ F.entry_tuple_mul (F.args_tuple_mul_2 _ _) (mul_once l its.toArray m dd sl t) ⟨ho, .ref l, H, I, rfl, q⟩⟩)
  · obtain rfl : k = 0 := by omega
    refine wpAny_binaryOp_repeat_ref (T := "tuple") (U := "int") (by decide) ⟨_, ho, rfl⟩ tyI noFill_tuple_mul F.fills_int_mul F.slot_int_rmul repeat_tuple F.slot_int_index.lookup
      (call_meets F.slot_int_rmul (tyI s) F.entry_int_rmul (F.args_int_rmul_2 _ _) (int_rmul_tuple 0 t l its.toArray m dd sl) ⟨ho, rfl, ⟨_, ho, rfl⟩, call_meets F.slot_tuple_mul ⟨_, ho, rfl⟩ F.entry_tuple_mul (F.args_tuple_mul_2 _ _) (mul_none l its.toArray m dd sl t it0) ⟨ho, ?_⟩⟩)
    refine ⟨.ref s.heap.objs.size, _, I.laid (t' := s.toks) (o := .tup []) (fun b ob z => Heap.get?_push_of_some _ z) (Nat.le_refl _) ?_, rfl, q _ (I.hok.fresh (Nat.le_refl _))⟩
    exact ⟨Nat.zero_le _, [], .nil, IsTup.new _ _⟩
theorem q_repN {X : Cx} {K : PySem.W.Frag} (h : X.K = K) : OpR X (binaryOp .Mult) (rRepN K) := h ▸ op_repN
end TM

set_option Elab.async false
set_option linter.all false
set_option maxRecDepth 100000
set_option maxHeartbeats 1000000
/-! zip of a list and a tuple: by two sources of any kind -/
namespace ZM
open PySem PySem.Spec PyProof.Rows
/-- an iterator it over what stands at l; st i: i are taken; val i: the next one then -/
structure Src (P : Program) (w : World) (it l : Addr) (st : Nat → Heap → Prop) (val : Nat → Option Value) : Prop where
  fr : ∀ i h h', st i h → (∀ o, h.get? it = some o → h'.get? it = some o) → (∀ o, h.get? l = some o → h'.get? l = some o) → st i h'
  item : ∀ (A : Around) (E : Value → Shared → Prop) (s : Shared) (Q : Value → Shared → Prop) (i : Nat) (x : Value), st i s.heap → val i = some x → (∀ h', st (i + 1) h' → Heap.SameBut it s.heap h' → Q x { s with heap := h' }) →
    wpAny (model P w) A (Builtin.SmallTypes.nextOf (.ref it)) Q E s
  stop : ∀ (A : Around) (E : Value → Shared → Prop) (s : Shared) (Q : Value → Shared → Prop) (i : Nat), A.handled = none → st i s.heap → val i = none → (∀ h' e, Heap.ExtBut it s.heap h' → (∃ o, h'.get? e = some o ∧ o.cls = .type "StopIteration") → E (.ref e) { s with heap := h' }) →
    wpAny (model P w) A (Builtin.SmallTypes.nextOf (.ref it)) Q E s
theorem src_list {P : Program} {w : World} {it l : Addr} {xs : Array Value} (hne : l ≠ it) : Src P w it l (fun i h => h.IsListIter it l i ∧ h.IsList l xs) (fun i => xs[i]?) where
  fr := fun i h h' st k1 k2 => ⟨st.1.at k1, st.2.at k2⟩
  item := fun A E s Q i x st hx q => wpAny_nextOf_list_item st.1 st.2 hx fun h' a b => q h' ⟨a, st.2.extBut b.extBut hne⟩ b
  stop := fun A E s Q i hh st hx q => wpAny_nextOf_list_end hh st.1 st.2 hx q
theorem src_tup {P : Program} {w : World} {it l : Addr} {xs : Array Value} (hne : l ≠ it) : Src P w it l (fun i h => h.IsTupleIter it l i ∧ h.IsTuple l xs) (fun i => xs[i]?) where
  fr := fun i h h' st k1 k2 => ⟨st.1.at k1, st.2.at k2⟩
  item := fun A E s Q i x st hx q => RZ.nextOf_tuple_item st.1 st.2 hx fun h' a b => q h' ⟨a, st.2.extBut b.extBut hne⟩ b
  stop := fun A E s Q i hh st hx q => RZ.nextOf_tuple_end hh st.1 st.2 hx q
/-- what a step of the zip may touch -/
def Far (z TO i1 i2 : Addr) (h h' : Heap) : Prop := ∀ c o, c ≠ z → c ≠ TO → c ≠ i1 → c ≠ i2 → h.get? c = some o → h'.get? c = some o
section
variable {P : Program} {w : World} {A : Around} {E : Value → Shared → Prop} {s : Shared} {z TI TO i1 i2 l1 l2 : Addr} {S1 S2 : Nat → Heap → Prop} {f1 f2 : Nat → Option Value} {a b x y : Value} {k1 k2 : Nat}
theorem next_item {Q : Value → Shared → Prop} (D : ZipApart z TI TO i1 i2 l1 l2) (s1 : Src P w i1 l1 S1 f1) (s2 : Src P w i2 l2 S2 f2) (hz : IsZip s.heap z TI TO .none) (hI : IsPair s.heap TI (.ref i1) (.ref i2)) (hO : IsPair s.heap TO a b)
    (t1 : S1 k1 s.heap) (t2 : S2 k2 s.heap) (hx : f1 k1 = some x) (hy : f2 k2 = some y)
    (hQ : ∀ h', IsZip h' z TI TO (rawInt s.heap.objs.size) → IsPair h' TO x y → S1 (k1 + 1) h' → S2 (k2 + 1) h' → IsPair h' s.heap.objs.size x y → h'.objs.size = s.heap.objs.size + 1 → Far z TO i1 i2 s.heap h' → Q (.ref s.heap.objs.size) { s with heap := h' }) :
    wpAny (model P w) A (Builtin.«zip.__next__» ⟨[.ref z], []⟩) (fun fin s' => ∃ v, fin = .done (.ret v) ∧ Q v s') E s := by
  show wpAny _ _ (field (.ref z) 2 >>= _) _ _ _
  refine wpAny_bind (wpAny_field hz rfl (x := .bool false) rfl ?_)
  refine wpAny_bind (wpAny_field hz rfl (x := .ref TI) rfl (wpAny_bind (wpAny_seqItems hI rfl (wpAny_bind ?_))))
  unfold Builtin.SmallTypes.ownedTupleIsFree
  refine wpAny_bind (wpAny_field hz rfl (x := .none) rfl (wpAny_pure ?_))
  simp only [if_true]
  refine wpAny_bind (wpAny_rule (wpAny_bind (wpAny_field hz rfl (x := .ref TO) rfl (wpAny_bind (wpAny_setField_rec hz (by simp) fun ha za ea => ?_)))))
  replace za : IsZip ha z TI TO .ellipsis := za
  refine wpAny_bind ?_
  simp only [List.zipIdx_cons, List.zipIdx_nil, List.forIn_cons, List.forIn_nil]
  -- the first one's next
  refine wpAny_bind (wpAny_bind (wpAny_onRaise (wpAny_bind (s1.item _ _ _ _ k1 x (s1.fr _ _ _ t1 (fun o e => ea.extBut _ _ D.i1z e) (fun o e => ea.extBut _ _ D.l1z e)) hx fun hb tb eb => wpAny_pure ?_))))
  have Ob : IsPair hb TO a b := eb.extBut _ _ D.TOi1 (ea.extBut _ _ D.TOz hO)
  refine wpAny_bind (wpAny_seqItems Ob rfl (wpAny_bind (wpAny_updateSeq_pair Ob fun hc Oc ec => ?_)))
  replace Oc : IsPair hc TO x b := Oc
  refine wpAny_bind (wpAny_letGo (wpAny_pure ?_))
  -- the second one's
  have kc : Far z TO i1 i2 s.heap hc := fun c o n1 n2 n3 n4 e => ec.extBut _ _ n2 (eb.extBut _ _ n3 (ea.extBut _ _ n1 e))
  refine wpAny_bind (wpAny_bind (wpAny_onRaise (wpAny_bind (s2.item _ _ _ _ k2 y (s2.fr _ _ _ t2 (fun o e => ec.extBut _ _ D.TOi2.symm (eb.extBut _ _ D.i12.symm (ea.extBut _ _ D.i2z e))) (fun o e => kc _ o D.l2z D.l2TO D.l2i1 D.l2i2 e)) hy fun hd td ed => wpAny_pure ?_))))
  have Od : IsPair hd TO x b := ed.extBut _ _ D.TOi2 Oc
  refine wpAny_bind (wpAny_seqItems Od rfl (wpAny_bind (wpAny_updateSeq_pair Od fun he Oe ee => ?_)))
  replace Oe : IsPair he TO x y := Oe
  refine wpAny_bind (wpAny_letGo (wpAny_pure (wpAny_pure ?_)))
  refine wpAny_bind (wpAny_seqItems Oe rfl (wpAny_bind (wpAny_newTuple ?_)))
  have sz : he.objs.size = s.heap.objs.size := by rw [ee.1, ed.1, ec.1, eb.1, ea.1]
  have ke : Far z TO i1 i2 s.heap he := fun c o n1 n2 n3 n4 e => ee.extBut _ _ n2 (ed.extBut _ _ n4 (kc c o n1 n2 n3 n4 e))
  have ze : IsZip he z TI TO .ellipsis := ee.extBut _ _ D.TOz.symm (ed.extBut _ _ D.i2z.symm (ec.extBut _ _ D.TOz.symm (eb.extBut _ _ D.i1z.symm za)))
  have zl : z < he.objs.size := Heap.lt_size ze
  refine wpAny_bind ?_
  unfold Builtin.SmallTypes.ownedTupleHandOut
  refine wpAny_bind (wpAny_setField_rec (Heap.get?_push_of_some _ ze) (by simp) fun hf zf ef => ?_)
  replace zf : IsZip hf z TI TO (rawInt he.objs.size) := zf
  refine wpAny_setField_rec zf (by simp) fun hg zg eg => ?_
  replace zg : IsZip hg z TI TO (rawInt he.objs.size) := zg
  have up : ∀ c o, c ≠ z → he.get? c = some o → hg.get? c = some o := fun c o n e => eg.extBut _ _ n (ef.extBut _ _ n (Heap.get?_push_of_some _ e))
  have Tg : IsPair hg he.objs.size x y := eg.extBut _ _ (Nat.ne_of_gt zl) (ef.extBut _ _ (Nat.ne_of_gt zl) (Heap.get?_push_size _ rfl))
  have gs : hg.objs.size = he.objs.size + 1 := by rw [eg.1, ef.1, Heap.size_push]
  rw [sz] at zg Tg gs
  refine wpAny_pure ⟨_, rfl, ?_⟩
  show Q (.ref he.objs.size) _
  rw [sz]
  refine hQ hg zg (up _ _ D.TOz Oe) ?_ ?_ Tg gs fun c o n1 n2 n3 n4 e => up c o n1 (ke c o n1 n2 n3 n4 e)
  · refine s1.fr _ _ _ tb (fun o e => up _ o D.i1z (ee.extBut _ _ D.TOi1.symm (ed.extBut _ _ D.i12 (ec.extBut _ _ D.TOi1.symm e)))) (fun o e => up _ o D.l1z (ee.extBut _ _ D.l1TO (ed.extBut _ _ D.l1i2 (ec.extBut _ _ D.l1TO e))))
  · refine s2.fr _ _ _ td (fun o e => up _ o D.i2z (ee.extBut _ _ D.TOi2.symm e)) (fun o e => up _ o D.l2z (ee.extBut _ _ D.l2TO e))
theorem next_end {Q : Fin → Shared → Prop} (hh : A.handled = none) (D : ZipApart z TI TO i1 i2 l1 l2) (s1 : Src P w i1 l1 S1 f1) (hz : IsZip s.heap z TI TO .none) (hI : IsPair s.heap TI (.ref i1) (.ref i2)) (t1 : S1 k1 s.heap) (hx : f1 k1 = none)
    (hE : ∀ h' e, Far z TO i1 i2 s.heap h' → (∃ o, h'.get? e = some o ∧ o.cls = .type "StopIteration") → E (.ref e) { s with heap := h' }) :
    wpAny (model P w) A (Builtin.«zip.__next__» ⟨[.ref z], []⟩) Q E s := by
  show wpAny _ _ (field (.ref z) 2 >>= _) _ _ _
  refine wpAny_bind (wpAny_field hz rfl (x := .bool false) rfl ?_)
  refine wpAny_bind (wpAny_field hz rfl (x := .ref TI) rfl (wpAny_bind (wpAny_seqItems hI rfl (wpAny_bind ?_))))
  unfold Builtin.SmallTypes.ownedTupleIsFree
  refine wpAny_bind (wpAny_field hz rfl (x := .none) rfl (wpAny_pure ?_))
  simp only [if_true]
  refine wpAny_bind (wpAny_rule (wpAny_bind (wpAny_field hz rfl (x := .ref TO) rfl (wpAny_bind (wpAny_setField_rec hz (by simp) fun ha za ea => ?_)))))
  replace za : IsZip ha z TI TO .ellipsis := za
  refine wpAny_bind ?_
  simp only [List.zipIdx_cons, List.zipIdx_nil, List.forIn_cons, List.forIn_nil]
  refine wpAny_bind (wpAny_bind (wpAny_onRaise (wpAny_bind (s1.stop _ _ _ _ k1 hh (s1.fr _ _ _ t1 (fun o e => ea.extBut _ _ D.i1z e) (fun o e => ea.extBut _ _ D.l1z e)) hx fun hb e eb he => ?_))))
  obtain ⟨oe, g1, g2⟩ := he
  have zb : IsZip hb z TI TO .ellipsis := eb _ _ D.i1z.symm za
  have ne : e ≠ z := fun q => by
    rw [q, zb] at g1
    cases g1
    simp at g2
  exact wpAny_setField_rec zb (by simp) fun hc _ ec => hE hc e (fun c o n1 _ n3 _ q => ec.extBut _ _ n1 (eb _ _ n3 (ea.extBut _ _ n1 q))) ⟨oe, ec.extBut _ _ ne g1, g2⟩
theorem py_item {Q : Option Value → Shared → Prop} (D : ZipApart z TI TO i1 i2 l1 l2) (s1 : Src P w i1 l1 S1 f1) (s2 : Src P w i2 l2 S2 f2) (hz : IsZip s.heap z TI TO .none) (hI : IsPair s.heap TI (.ref i1) (.ref i2)) (hO : IsPair s.heap TO a b)
    (t1 : S1 k1 s.heap) (t2 : S2 k2 s.heap) (hx : f1 k1 = some x) (hy : f2 k2 = some y)
    (hQ : ∀ h', IsZip h' z TI TO (rawInt s.heap.objs.size) → IsPair h' TO x y → S1 (k1 + 1) h' → S2 (k2 + 1) h' → IsPair h' s.heap.objs.size x y → h'.objs.size = s.heap.objs.size + 1 → Far z TO i1 i2 s.heap h' → Q (some (.ref s.heap.objs.size)) { s with heap := h' }) :
    wpAny (model P w) A (pyNext (.ref z)) Q E s := by
  have ty : s.TypeIs (.ref z) "zip" := ⟨_, hz, rfl⟩
  unfold pyNext
  refine wpAny_bind (wpAny_attempt (wpAny_callSpecial?_slot (name := Str.ofString "__next__") ty F.slot_zip_next (wpAny_call_entry F.slot_zip_next ty F.entry_zip_next ?_ (F.args_zip_next_1 _))))
  exact next_item D s1 s2 hz hI hO t1 t2 hx hy fun h' c1 c2 c3 c4 c5 c6 c7 => wpAny_pure (hQ h' c1 c2 c3 c4 c5 c6 c7)
theorem py_end {Q : Option Value → Shared → Prop} (hh : A.handled = none) (D : ZipApart z TI TO i1 i2 l1 l2) (s1 : Src P w i1 l1 S1 f1) (hz : IsZip s.heap z TI TO .none) (hI : IsPair s.heap TI (.ref i1) (.ref i2)) (t1 : S1 k1 s.heap) (hx : f1 k1 = none)
    (hQ : ∀ h', Far z TO i1 i2 s.heap h' → Q none { s with heap := h' }) : wpAny (model P w) A (pyNext (.ref z)) Q E s := by
  have ty : s.TypeIs (.ref z) "zip" := ⟨_, hz, rfl⟩
  unfold pyNext
  refine wpAny_bind (wpAny_attempt (wpAny_callSpecial?_slot (name := Str.ofString "__next__") ty F.slot_zip_next (wpAny_call_entry F.slot_zip_next ty F.entry_zip_next ?_ (F.args_zip_next_1 _))))
  refine next_end hh D s1 hz hI t1 hx fun h' e hk he => ?_
  obtain ⟨o, g1, g2⟩ := he
  exact wpAny_bind (wpAny_isInstance (T := "StopIteration") (b := true) ⟨o, g1, g2⟩ isSubtype_stop (wpAny_pure (hQ _ hk)))
end
/-! zip(list, tuple) made -/
abbrev zA (h : Heap) (l : Addr) : Heap := h.push { cls := .type "list_iterator", data := .fields #[.ref l, .int 0 0] }
abbrev zB (h : Heap) (l r : Addr) : Heap := (zA h l).push { cls := .type "tuple_iterator", data := .fields #[.ref r, .int 0 0] }
abbrev zC (h : Heap) (l r : Addr) : Heap := (zB h l r).push { cls := .type "tuple", data := .seq #[.ref h.objs.size, .ref (zA h l).objs.size] }
abbrev zD (h : Heap) (l r : Addr) : Heap := (zC h l r).push { cls := .type "tuple", data := .seq #[.none, .none] }
abbrev zE (h : Heap) (l r : Addr) : Heap := (zD h l r).push { cls := .type "zip", data := .fields #[.none, .bool false, .bool false, .ref (zB h l r).objs.size, .ref (zC h l r).objs.size] }
theorem new_zip (l r : Addr) (xs ys : Array Value) :
    Meets (Builtin.«zip.__new__» ⟨[.type "zip", .ref l, .ref r], []⟩) (fun _ R s => s.heap.IsList l xs ∧ s.heap.IsTuple r ys ∧ R (.ok (.ret (.ref (zD s.heap l r).objs.size))) { s with heap := zE s.heap l r }) :=
  .of_wp fun prog w A R s h => by
    obtain ⟨hp, g, d, tk, os⟩ := s
    obtain ⟨h1, h2, h⟩ := h
    have hsub := sub_zip
    have a1 : Heap.IsList (Shared.heap ⟨hp, g, d, tk, os⟩) l xs := h1
    have a2 : Heap.IsTuple (Shared.heap ⟨zA hp l, g, d, tk, os⟩) r ys := Heap.IsTuple.push h2 _
    wp_walk using wpAny_pyIter_list a1, wpAny_pyIter_tuple a2
    exact ⟨_, rfl, h⟩
theorem call_zip {P : Program} {w : World} {A : Around} {E : Value → Shared → Prop} {s : Shared} {l r : Addr} {xs ys : Array Value} {Q : Value → Shared → Prop} (h1 : s.heap.IsList l xs) (h2 : s.heap.IsTuple r ys) {n : Nat} (hn : s.heap.objs.size = n)
    (h : ∀ h', IsZip h' (n + 4) (n + 2) (n + 3) .none → IsPair h' (n + 2) (.ref n) (.ref (n + 1)) → IsPair h' (n + 3) .none .none → h'.IsListIter n l 0 → h'.IsTupleIter (n + 1) r 0 → (∀ c o, s.heap.get? c = some o → h'.get? c = some o) → Q (.ref (n + 4)) { s with heap := h' }) :
    wpAny (model P w) A (call (.type "zip") [.ref l, .ref r]) Q E s := by
  refine callType_new F.called_zip (by decide) (F.typeCall_zip_2 _ _) (F.newCall_zip_2 _ _) (fun obj => F.args_object_init_3 obj _ _) F.entry_zip_new (new_zip l r xs ys) ⟨h1, h2, ?_⟩
  have za : (zA s.heap l).objs.size = n + 1 := by rw [Heap.size_push, hn]
  have zb : (zB s.heap l r).objs.size = n + 2 := by rw [Heap.size_push, za]
  have zc : (zC s.heap l r).objs.size = n + 3 := by rw [Heap.size_push, zb]
  have zd : (zD s.heap l r).objs.size = n + 4 := by rw [Heap.size_push, zc]
  have st : ∀ {h : Heap} {o' : Obj} {c : Addr} {o : Obj}, h.get? c = some o → (h.push o').get? c = some o := fun e => Heap.get?_push_of_some _ e
  have e5 : (zE s.heap l r).get? (zD s.heap l r).objs.size = some _ := Heap.get?_push_size _ rfl
  have e4 : (zE s.heap l r).get? (zC s.heap l r).objs.size = some _ := st (Heap.get?_push_size _ rfl)
  have e3 : (zE s.heap l r).get? (zB s.heap l r).objs.size = some _ := st (st (Heap.get?_push_size _ rfl))
  have e2 : (zE s.heap l r).get? (zA s.heap l).objs.size = some _ := st (st (st (Heap.get?_push_size _ rfl)))
  have e1 : (zE s.heap l r).get? s.heap.objs.size = some _ := st (st (st (st (Heap.get?_push_size _ rfl))))
  show _ ∧ _
  rw [zd, zc, zb] at e5
  rw [zb, za, hn] at e3
  rw [zc] at e4
  rw [za] at e2
  rw [hn] at e1
  rw [zd]
  exact ⟨⟨_, e5, rfl⟩, h _ e5 e3 e4 ⟨_, e1, rfl, rfl⟩ ⟨_, e2, rfl, rfl⟩ fun c o q => st (st (st (st (st q))))⟩
end ZM

set_option Elab.async false
set_option linter.all false
set_option maxRecDepth 100000
set_option maxHeartbeats 1000000
/-! for x, y in zip(list, tuple) -/
namespace ZM
open PySem PySem.Spec PyProof.Rows L2
def ItzM (K : PySem.W.Frag) (a b : Addr) : It :=
  ⟨fun i H => ∃ (xs ys : List V) (x y : V), SqL K H a xs ∧ SqT K H b ys ∧ xs[i]? = some x ∧ ys[i]? = some y,
    fun i H v H' => ∃ T x y, v = .ref T ∧ H T = none ∧ H' = upd H T (.tup [x, y]) ∧ (∀ xs, SqL K H a xs → xs[i]? = some x) ∧ ∀ ys, SqT K H b ys → ys[i]? = some y,
    fun i H => ∃ xs : List V, SqL K H a xs ∧ xs.length ≤ i⟩
def tn (z TI TO i1 i2 a b : Addr) (i : Nat) (h : Heap) : Prop := IsZip h z TI TO .none ∧ IsPair h TI (.ref i1) (.ref i2) ∧ (∃ x y, IsPair h TO x y) ∧ h.IsListIter i1 a i ∧ h.IsTupleIter i2 b i
theorem five {c z TI TO i1 i2 : Addr} (h : c ∈ [z, TI, TO, i1, i2]) : c = z ∨ c = TI ∨ c = TO ∨ c = i1 ∨ c = i2 := by simpa using h
theorem tn_obj {z TI TO i1 i2 a b : Addr} {i : Nat} {h : Heap} (st : tn z TI TO i1 i2 a b i h) {c : Addr} (hc : c ∈ [z, TI, TO, i1, i2]) : ∃ o, h.get? c = some o ∧ ∀ v, o.data ≠ .cell v := by
  obtain ⟨hz, hI, ⟨x, y, hO⟩, ⟨o1, e1, _, d1⟩, ⟨o2, e2, _, d2⟩⟩ := st
  rcases five hc with rfl | rfl | rfl | rfl | rfl
  · exact ⟨_, hz, fun v q => nomatch q⟩
  · exact ⟨_, hI, fun v q => nomatch q⟩
  · exact ⟨_, hO, fun v q => nomatch q⟩
  · exact ⟨o1, e1, fun v q => by rw [d1] at q; cases q⟩
  · exact ⟨o2, e2, fun v q => by rw [d2] at q; cases q⟩
theorem turn_zipM {P : Program} {w : World} {K : PySem.W.Frag} {elts : List Expr} {kk : Nat} {tpos : Pos} {a b z TI TO i1 i2 : Addr} (D : ZipApart z TI TO i1 i2 a b) :
    Turn P w K (.Tuple elts kk tpos) (ItzM K a b) [z, TI, TO, i1, i2] z (tn z TI TO i1 i2 a b) where
  mem := List.mem_cons_self ..
  obj := fun i h st c hc => tn_obj st hc
  keep := fun i h h' st k => by
    obtain ⟨hz, hI, ⟨x, y, hO⟩, h1, h2⟩ := st
    exact ⟨k z (by simp) _ hz, k TI (by simp) _ hI, ⟨x, y, k TO (by simp) _ hO⟩, h1.at (k i1 (by simp)), h2.at (k i2 (by simp))⟩
  item := by
    intro X hP hw hK hc i pins s σ H E I hf st hg
    subst hP hw hK
    have lt : ∀ c ∈ [z, TI, TO, i1, i2], c < s.heap.objs.size := fun c hc => by
      obtain ⟨o, e, _⟩ := tn_obj st hc
      exact Heap.lt_size e
    obtain ⟨hz, hI, ⟨x0, y0, hO⟩, h1, h2⟩ := st
    obtain ⟨xs, ys, x, y, qx, qy, hx, hy⟩ := hg
    obtain ⟨us, rv, p, _⟩ := I.list qx
    obtain ⟨us2, rv2, p2, _⟩ := I.tuple qy
    obtain ⟨u, hu, ru⟩ := rv.get hx
    obtain ⟨u2, hu2, ru2⟩ := rv2.get hy
    have zl : z < s.heap.objs.size := lt z (by simp)
    refine py_item D (src_list (xs := us.toArray) D.l1i1) (src_tup (xs := us2.toArray) D.l2i2) hz hI hO ⟨h1, p.isList⟩ ⟨h2, p2⟩ (x := u) (y := u2) (by simpa using hu) (by simpa using hu2) fun h' z' O' h1' h2' hT hsz hk => ?_
    refine ⟨_, rfl, wpAny_letOwnedTupleGo_zip (s := { s with heap := h' }) z' fun h'' z'' sb => ?_⟩
    have hN : h''.get? s.heap.objs.size = some { cls := .type "tuple", data := .seq #[u, u2] } := (sb.2 _ (Nat.ne_of_gt zl)).trans hT
    have I1 : Inv X pins σ (upd H s.heap.objs.size (.tup [x, y])) { s with heap := h'' } := by
      refine I.turnedNew (t' := s.toks) (ch := [z, TI, TO, i1, i2]) (fun c o hb q => ?_) hf (Nat.le_refl _) ⟨by show 2 ≤ sizeLine; decide, [u, u2], .cons ru (.cons ru2 .nil), ⟨_, hN, rfl, _, rfl⟩⟩
      have ne : ∀ d ∈ [z, TI, TO, i1, i2], c ≠ d := fun d hd e => hb (e ▸ hd)
      exact (sb.2 c (ne z (by simp))).trans (hk c o (ne z (by simp)) (ne TO (by simp)) (ne i1 (by simp)) (ne i2 (by simp)) q)
    refine ⟨.ref s.heap.objs.size, _, I1, rfl, ⟨_, x, y, rfl, I.hok.fresh (Nat.le_refl _), rfl, fun l hl => ?_, fun l hl => ?_⟩, ⟨z'', ?_, ⟨u, u2, (sb.2 _ D.TOz).trans O'⟩, h1'.1.at fun o q => (sb.2 _ D.i1z).trans q, h2'.1.at fun o q => (sb.2 _ D.i2z).trans q⟩, fun c hcm => ?_⟩
    · rw [I.list_inj hl qx]
      exact hx
    · rw [I.tuple_inj hl qy]
      exact hy
    · exact (sb.2 _ D.TIz).trans (hk _ _ D.TIz D.TITO D.TIi1 D.TIi2 hI)
    · rw [upd_ne (Nat.ne_of_lt (lt c hcm))]
      exact (hf c hcm).1
  done := by
    intro X hP hw hK hc i pins s σ H E I hf st hg
    subst hP hw hK
    obtain ⟨hz, hI, ⟨x0, y0, hO⟩, h1, h2⟩ := st
    obtain ⟨xs, qx, hend⟩ := hg
    obtain ⟨us, rv, p, _⟩ := I.list qx
    have l1 := rv.length
    refine py_end (I.ok.hd hc) D (src_list (xs := us.toArray) D.l1i1) hz hI ⟨h1, p.isList⟩ (by simp; omega) fun h' hk => ⟨rfl, I.turnedL (t' := s.toks) (ch := [z, TI, TO, i1, i2]) (fun c o hb q => ?_) hf⟩
    have ne : ∀ d ∈ [z, TI, TO, i1, i2], c ≠ d := fun d hd e => hb (e ▸ hd)
    exact hk c o (ne z (by simp)) (ne TO (by simp)) (ne i1 (by simp)) (ne i2 (by simp)) q
  self := fun A i s Q E st h => wpAny_pyIter_zip st.1 h
def iZipM (K : PySem.W.Frag) (ta : TA) : TI := fun σ H R => ta σ H fun vs H1 => ∃ a b xs ys, vs = [.ref a, .ref b] ∧ SqL K H1 a xs ∧ SqT K H1 b ys ∧ R (ItzM K a b) H1
theorem pi_zipM {X : Cx} {e e2 : Expr} {ta : TA} {p pos tpos : Pos} {elts : List Expr} {kk : Nat} (hg : Gl X "zip") (hm : X.mg "zip" = none) (ha : PA X [e, e2] ta)
    (hs : starEach [e, e2] X.env = (false, eval e X.env) :: starEach [e2] X.env := by rfl) (hpl : (backTo pos (starEach [e2] X.env)).any (·.1) = false := by rfl) :
    PI X (.Tuple elts kk tpos) (.Call (.Name "zip" p) [e, e2] [] pos) (iZipM X.K ta) := by
  refine ⟨fun pins s σ H R I h => ?_⟩
  refine Call_ (ld_blt I hg hm PyProof.Rows.boot_zip (PyProof.Rows.callWith_type1 (thn (ha.run pos pins s σ H _ I h) fun us s1 ⟨vs, H1, I1, r1, q1⟩ => ?_) hs hpl))
  obtain ⟨a, b, xs, ys, rfl, qx, qy, q⟩ := q1
  cases r1 with
  | cons r rr =>
  cases rr with
  | cons r' rr =>
  cases rr
  cases r
  cases r'
  obtain ⟨us, rv, p1, _⟩ := I1.list qx
  obtain ⟨us2, rv2, p2, _⟩ := I1.tuple qy
  obtain ⟨o2, ho2, _⟩ := id p2
  generalize hn : s1.heap.objs.size = n
  refine call_zip p1.isList (show s1.heap.IsTuple b us2.toArray from p2) hn fun h' hz hI hO h1 h2 hk => wpAny_pyIter_zip hz ?_
  refine ⟨n + 4, [n + 4, n + 2, n + 3, n, n + 1], _, _, H1, rfl, I1.kept (t' := s1.toks) hk, turn_zipM (PySem.W.ktu_apart n a b (hn ▸ p1.lt) (hn ▸ Heap.lt_size ho2)), ⟨hz, hI, ⟨_, _, hO⟩, h1, h2⟩, fun c hcm => ?_, q⟩
  have hle : s1.heap.objs.size ≤ c := by
    rw [hn]
    rcases five hcm with rfl | rfl | rfl | rfl | rfl <;> first | exact Nat.le_add_right _ _ | exact Nat.le_refl _
  exact I1.fpOk hle (I1.hok.fresh hle)
theorem q_zipM {X : Cx} {K : PySem.W.Frag} {e e2 : Expr} {ta : TA} {p pos tpos : Pos} {elts : List Expr} {kk : Nat} (hK : X.K = K) (hg : Gl X "zip") (hm : X.mg "zip" = none) (ha : PA X [e, e2] ta)
    (hs : starEach [e, e2] X.env = (false, eval e X.env) :: starEach [e2] X.env := by rfl) (hpl : (backTo pos (starEach [e2] X.env)).any (·.1) = false := by rfl) :
    PI X (.Tuple elts kk tpos) (.Call (.Name "zip" p) [e, e2] [] pos) (iZipM K ta) := hK ▸ pi_zipM hg hm ha hs hpl
theorem for_zipM {K : PySem.W.Frag} {a b : Addr} {xs ys : List V} {g : TG} {tb : TS} {D : Ends} {σ : L2.St} {H : Hp} (hl : xs.length = ys.length) (Pv : Nat → L2.St → Hp → Prop) (h0 : Pv 0 σ H) (hq : ∀ i σ H, Pv i σ H → SqL K H a xs ∧ SqT K H b ys)
    (hs : ∀ (i : Nat) (x y : V) (T : Addr) (σ : L2.St) (H : Hp), xs[i]? = some x → ys[i]? = some y → Pv i σ H → H T = none → g (.ref T) σ (upd H T (.tup [x, y])) fun σ2 H2 => tb { D with nx := Pv (i + 1), ct := Pv (i + 1), bk := D.nx } σ2 H2) (hd : ∀ σ H, Pv xs.length σ H → D.nx σ H) :
    ∃ W : Nat → Nat → L2.St → Hp → Prop, (∃ m, W 0 m σ H) ∧ ∀ i m σ H, W i m σ H → ((ItzM K a b).stop i H ∧ D.nx σ H) ∨
      ((ItzM K a b).go i H ∧ ∃ N : L2.St → Hp → Prop, (∀ σ' H', N σ' H' → ∃ m', m' < m ∧ W (i + 1) m' σ' H') ∧ ∀ v H', (ItzM K a b).yld i H v H' → g v σ H' fun σ2 H2 => tb { D with nx := N, ct := N, bk := D.nx } σ2 H2) := by
  refine ⟨fun i m σ H => m + i = xs.length ∧ Pv i σ H, ⟨xs.length, rfl, h0⟩, ?_⟩
  rintro i m σ H ⟨hm, pv⟩
  obtain ⟨qx, qy⟩ := hq i σ H pv
  cases m with
  | zero =>
    obtain rfl : i = xs.length := by omega
    exact .inl ⟨⟨xs, qx, Nat.le_refl _⟩, hd σ H pv⟩
  | succ m =>
    have g1 : xs[i]? = some (xs[i]'(by omega)) := List.getElem?_eq_getElem _
    have g2 : ys[i]? = some (ys[i]'(by omega)) := List.getElem?_eq_getElem _
    refine .inr ⟨⟨xs, ys, _, _, qx, qy, g1, g2⟩, Pv (i + 1), fun σ' H' p' => ⟨m, Nat.lt_succ_self _, by omega, p'⟩, ?_⟩
    rintro v H' ⟨T, x', y', rfl, hT, rfl, k1, k2⟩
    exact hs i x' y' T σ H (k1 xs qx) (k2 ys qy) pv hT
end ZM

set_option Elab.async false
set_option linter.all false
set_option maxRecDepth 100000
set_option maxHeartbeats 3000000
/-! set(a list of ints), and sorted of it -/
namespace SR
open PySem PySem.Spec PyProof.Rows L2
/-- a set as it is made -/
abbrev bare (w : World) : Obj := { cls := .type "set", dict := none, data := .set #[] 0 (.fresh 0 0 (!w.params.followText "set-order")) }
section
variable {P : Program} {w : World} {A : Around} {E : Value → Shared → Prop} {s : Shared}
/-- the members are put in, one by one -/
theorem filled {l S : Addr} {us : Array Value} {ns : List Int} {Q : Value → Shared → Prop} (hh : A.handled = none) (hS : s.heap.get? S = some (bare w)) (hl : s.heap.IsList l us) (hi : IntsAre us.toList ns) (hb : ns.length + 1 < scanBound)
    (h : ∀ (h' : Heap) (tk c : Nat), SetR w h' S (fun j => decide (j ∈ ns)) c → c ≤ ns.length → (∀ b o, b ≠ S → s.heap.get? b = some o → h'.get? b = some o) → Q .none { s with heap := h', toks := tk }) :
    codeAny (model P w) A (.call (.builtin "set.__init__") ⟨[.ref S, .ref l], []⟩) (wants Q E) s := by
  have ty : s.TypeIs (.ref S) "set" := ⟨_, hS, rfl⟩
  refine codeAny_call_builtin F.called_set.init.plain F.entry_set_init (check_set_init_1 ty ?_)
  have hz : us.size = ns.length := (Array.length_toList (xs := us)) ▸ IntsAre.length hi
  obtain ⟨⟨cl, dd, dt, sl⟩, g0, c0, m, d0⟩ := id hl
  simp only at c0 d0
  subst c0 d0
  have n1 := F.sub_list_set
  have n2 := F.sub_list_frozenset
  have n3 : (Value.type "list" == Value.type "dict") = false := by decide
  unfold Builtin.«set.__init__» noKeywords Builtin.Frozenset.updateFrom
  generalize hPI : pyIter = PI
  wp_walk
  subst hPI
  have lS : S ≠ l := fun e => by
    rw [e, g0] at hS
    exact absurd (congrArg Obj.cls (Option.some.inj hS)) (show ¬ Value.type "list" = Value.type "set" by decide)
  have ll : l < s.heap.objs.size := Heap.lt_size g0
  have lS2 : S < s.heap.objs.size := Heap.lt_size hS
  refine wpAny_pyIter_list hl (wpAny_bind (wpAny_runValue ?_))
  have val : ∀ (i : Nat) (v : Value), us[i]? = some v → ∃ k t, ns[i]? = some k ∧ v = .int k t := fun i v hv => by
    have hi' : i < ns.length := hz ▸ (Array.getElem?_eq_some_iff.mp hv).1
    obtain ⟨t, e⟩ := IntsAre.int_at hi i v (Array.getElem?_toList .. ▸ hv)
    exact ⟨ns[i], t, List.getElem?_eq_getElem hi', by rw [e, List.getD_eq_getElem?_getD, List.getElem?_eq_getElem hi'] <;> rfl⟩
  refine set_update_ints ((Walks.list (by simp [hh]) _ l (Nat.ne_of_lt ll) us).toS) S ?_ ns hz hb val (us.size - 0) 0 _ (by omega) (Nat.zero_le _) ⟨⟨_, Heap.get?_push_size _ rfl, rfl, rfl⟩, hl.push _⟩ ⟨0, Nat.le_refl 0, setR_new_at (Heap.get?_push_of_some _ hS)⟩ ?_
  · intro z
    rcases List.mem_cons.mp z with e | z
    · exact absurd e (Nat.ne_of_lt lS2)
    · exact lS (List.mem_singleton.mp z)
  · intro s' c' hm hc' hS'
    obtain ⟨h', g', d', tk', os'⟩ := s'
    obtain rfl : g' = s.gens := hm.gens
    obtain rfl : d' = s.drawn := hm.drawn
    obtain rfl : os' = s.os := hm.os
    refine wpAny_pure (wpAny_pure (h h' tk' c' hS' (hz ▸ hc') fun b o n e => ?_))
    refine hm.heap b o (fun z => ?_) (Heap.get?_push_of_some _ e)
    rcases List.mem_cons.mp z with z | z
    · exact n z
    · exact Nat.ne_of_lt (Heap.lt_size e) (List.mem_singleton.mp z)
theorem made {l : Addr} {us : Array Value} {ns : List Int} {Q : Value → Shared → Prop} (hh : A.handled = none) (hl : s.heap.IsList l us) (hi : IntsAre us.toList ns) (hb : ns.length + 1 < scanBound)
    (h : ∀ (h' : Heap) (tk c : Nat), SetR w h' s.heap.objs.size (fun j => decide (j ∈ ns)) c → c ≤ ns.length → (∀ b o, s.heap.get? b = some o → h'.get? b = some o) → Q (.ref s.heap.objs.size) { s with heap := h', toks := tk }) :
    wpAny (model P w) A (call (.type "set") [.ref l]) Q E s := by
  obtain ⟨c, tl, hmro⟩ := F.called_set.mro
  have m1 := F.called_set.made
  have m2 := F.called_set.sub
  refine wpAny_call (codeAny_of_tree (?_ : wpAny _ _ (callAny (.type "set") _) _ _ _))
  refine wpAny_pure ⟨Code.quiet_builtin _ (by decide +kernel), codeAny_builtin F.entry_type_call ((Around.under_plain (weight_type_call_type "set" [.ref l] []) rfl).symm ▸ ?_)⟩
  have m3 := F.called_set.notType
  have m4 := F.called_set.canCreate
  have m5 := F.typeCall_set_1 (.ref l)
  repeat (any_goals (first | assumption | wp_step))
  have S0 : (s.heap.push (bare w)).get? s.heap.objs.size = some (bare w) := Heap.get?_push_size _ rfl
  have kept : ∀ b o, s.heap.get? b = some o → (s.heap.push (bare w)).get? b = some o := fun b o e => Heap.get?_push_of_some _ e
  refine codeAny_mono (code_set_led1 (.ref l) (E := E) (Q₁ := fun v s1 => v = .ref s.heap.objs.size ∧ s1 = { s with heap := s.heap.push (bare w) }) ⟨rfl, rfl⟩) fun r s1 hr => ?_
  match r, hr with
  | .error e, hr => exact hr
  | .ok (.ret v), hr =>
    obtain ⟨rfl, rfl⟩ := hr
    have ty : Shared.TypeIs { s with heap := s.heap.push (bare w) } (.ref s.heap.objs.size) "set" := ⟨_, S0, rfl⟩
    have m6 := F.called_set.init.lookup
    have m7 := F.called_set.init.bind (.ref s.heap.objs.size)
    repeat (any_goals (first | assumption | wp_step))
    refine codeAny_mono (filled (P := P) (E := E) (Q := fun v s2 => v = .none ∧ ∃ h' tk c, s2 = { s with heap := h', toks := tk } ∧ SetR w h' s.heap.objs.size (fun j => decide (j ∈ ns)) c ∧ c ≤ ns.length ∧ ∀ b o, s.heap.get? b = some o → h'.get? b = some o)
      (s := { s with heap := s.heap.push (bare w) }) (by simp [hh]) S0 (hl.push _) hi hb fun h' tk c a1 a2 a3 => ⟨rfl, h', tk, c, rfl, a1, a2, fun b o e => a3 b o (Nat.ne_of_lt (Heap.lt_size e)) (kept b o e)⟩) fun r2 s2 h2 => ?_
    match r2, h2 with
    | .error e, h2 => exact h2
    | .ok (.ret v), h2 =>
      obtain ⟨rfl, h', tk, c', rfl, a1, a2, a3⟩ := h2
      repeat (any_goals (first | assumption | wp_step))
      exact h _ _ _ a1 a2 a3
    | .ok .next, h2 => exact h2.elim
    | .ok .brk, h2 => exact h2.elim
    | .ok .cont, h2 => exact h2.elim
  | .ok .next, hr => exact hr.elim
  | .ok .brk, hr => exact hr.elim
  | .ok .cont, hr => exact hr.elim
end
/-! the layer's rules -/
section
variable {X : Cx}
theorem ints_of {ns : List Int} {us : List Value} (h : Vals (ns.map V.int) us) : IntsAre us ns := RZ.intsAre_vals h
def rSetI (K : PySem.W.Frag) (w : World) : List V → Hp → VK → Prop := fun vs H Q => ∃ (p : Addr) (ns : List Int), vs = [.ref p] ∧ SqL K H p (ns.map V.int) ∧ ns.length ≤ 1000 ∧
  ∀ (q : Addr) (c : Nat), H q = none → c ≤ ns.length → Q (.ref q) (upd H q (SetO w q (fun j => decide (j ∈ ns)) c))
theorem cr_setI (hc : X.calm = true) : CallR X (.type "set") (rSetI X.K X.w) := by
  intro pins s σ H vs us Q I r h
  obtain ⟨p, ns, rfl, hq, hl, q⟩ := h
  rw [Vals.ref1 r]
  obtain ⟨its, rv, pl, _⟩ := I.list hq
  refine made (I.ok.hd hc) pl.isList (by simpa using ints_of rv) (by unfold scanBound; omega) fun h' tk c R hle k => ?_
  refine ⟨.ref s.heap.objs.size, _, I.laid (t' := tk) (o := SetO X.w s.heap.objs.size (fun j => decide (j ∈ ns)) c) k (Nat.le_refl _) (setO_new R), rfl, q _ c (I.hok.fresh (Nat.le_refl _)) hle⟩
theorem q_setI {K : PySem.W.Frag} {w : World} (hK : X.K = K) (hw : X.w = w) (hc : X.calm = true) : CallR X (.type "set") (rSetI K w) := hK ▸ hw ▸ cr_setI hc
theorem q_sortedSet {w : World} (hw : X.w = w) (hc : X.calm = true) : CallR X (.builtin "sorted") (rSortedSet w) := hw ▸ cr_sortedSet hc
end
end SR

set_option Elab.async false
set_option linter.all false
set_option maxRecDepth 100000
set_option maxHeartbeats 2000000
/-! own errors whose __init__ says super().__init__(text) -/
namespace HK
open PySem PySem.Spec PyProof.Rows L2
/-- a def whose body is super().__init__(text) -/
structure SupSh (st : Stmt) (p2 p3 : Pos) : Prop where
  body : ∃ (p0 p1 p4 pc : Pos) (txt : Str) (j : Nat), defBody st = [.Expr (.Call (.Attribute (.Call (.Name "super" p0) [] [] p1) "__init__" p2) [.Constant (.str txt) j pc] [] p3) p4]
  line : (p2.endLine == p3.line) = true
  binds : ∀ (qual : Str) (kV doc pm : Value) (an : Option Addr) (cd ct : Value) (cc : Addr) (s : Shared) (u : Value), BindsTo s (PySem.W.ksFn "__init__" qual (defArgs st) (defBody st) (defScope st) .none kV doc pm an cd ct cc) ⟨[u], []⟩ [("self", u)]
  ar : ∃ ar, ((defArgs st).posonlyargs ++ (defArgs st).args).head? = some ar ∧ ar.arg = "self"
  cell : ∀ x ∈ (defScope st).names, x.2 ≠ .cell
  co : (defScope st).isCoroutine = false
  gen : (defScope st).isGenerator = false
  kind : (defScope st).kind = .function
  su : (defScope st).names.lookup ("super" : Str) = some .globalImplicit
  cl : (defScope st).names.lookup ("__class__" : Str) = some .free
  se : (defScope st).names.lookup ("self" : Str) = some .local
/-- the __init__ of the class C: super().__init__(text), over ValueError -/
structure InitS (P : Program) (K : PySem.W.Frag) (C fI : Addr) : Prop where
  i : PySem.W.findIn K (.ref C) "__init__" = some (some (.ref fI))
  ti : PySem.W.typeIn K (.ref fI) = some (.type "function")
  ex : ∃ (cc cda : Addr) (st : Stmt) (p2 p3 : Pos) (qual : Str) (oc kV doc pm ct : Value) (od an : Option Addr) (osl : Array (Option Value)) (ccl : Value) (cdd : Option Addr) (vs : Array Value) (ccs : Array (Option Value)) (file : Str) (tf : Tok)
      (cl : Value) (cld : Option Addr) (csl : Array (Option Value)),
    SupSh st p2 p3 ∧ K.lookup fI = some ⟨oc, od, .func (PySem.W.ksFn "__init__" qual (defArgs st) (defBody st) (defScope st) .none kV doc pm an (.ref cda) ct cc), osl⟩ ∧ PySem.W.codeIn K (.ref cda) qual = true ∧
    K.lookup cda = some ⟨ccl, cdd, .fields vs, ccs⟩ ∧ vs[2]? = some (.str file tf) ∧ ((P.main.file : Str) == file) = true ∧
    K.lookup cc = some ⟨cl, cld, .cell (some (.ref C)), csl⟩
structure ExcI (P : Program) (K : PySem.W.Frag) (mg : Str → Option Value) (x : Str) (C : Addr) : Prop where
  m : mg x = some (.ref C)
  q : PySem.W.excInitIn K C exBases "ValueError.__new__" = true
  kp : PySem.W.keepIn K (.ref C) = true
  sb : PySem.W.subIn K (.ref C) (.type "BaseException") = some true
  ty : PySem.W.typeIn K (.ref C) = some (.type "type")
  is : PySem.W.isClsIn K C = true
  self : PySem.W.subIn K (.ref C) (.ref C) = some true
  sv : PySem.W.subIn K (.ref C) (.type "ValueError") = some true
  su : PySem.W.ks_superIn K C C "__init__" = some (some (.builtin "ValueError.__init__"))
  mr : PySem.W.mroIn K C (.ref C) = some true
  op : PySem.W.nsIn K cStatics "thirdparty.any" = some none
  ms : mg "super" = none
  ps : (P.main.scope.names.lookup ("super" : Str)).isSome = false
  ini : ∃ fI, InitS P K C fI
theorem ExcI.ex {P : Program} {K : PySem.W.Frag} {mg : Str → Option Value} {x : Str} {C : Addr} (h : ExcI P K mg x C) : PySem.W.exmOne K (.ref C) (.ref C) = some true := exm_self h.sb h.is h.ty h.self
theorem sup_eq {o : Expr} {name : Str} {p2 p3 pc : Pos} {txt : Str} {j : Nat} {env : Env} (hline : (p2.endLine == p3.line) = true) : eval (.Call (.Attribute o name p2) [.Constant (.str txt) j pc] [] p3) env = (do
      let ov ← attributeBase o name env (eval o env)
      standAt p2.atName
      let (f, first) ← holding [ov] (getMethod ov name (do return (← importBound o env).getD true))
      callWith p3 f first (backTo p3 (starEach [.Constant (.str txt) j pc] env)) []) := by
  rw [arm_eval_Call]
  have hf : methodCallForm 1 (backTo p3 (starEach [.Constant (.str txt) j pc] env)) (backToKw p3 (keywordEach [] env)) = true := rfl
  unfold methodCall calleeOf methodCallPos
  simp only [List.length_cons, List.length_nil, Nat.zero_add, Nat.add_zero, hf, hline, Bool.not_true, Bool.false_or, if_true, pure_bind]
  rfl
theorem call_ownI {X : Cx} {pins : List (Addr × Obj)} {σ : L2.St} {H : Hp} {s : Shared} {C : Addr} {x : Str} {k : Nat} {Q : Value → Shared → Prop} (h : ExcI X.prog X.K X.mg x C) (hr : Room k X.A) (I : Inv X pins σ H s)
    (hq : ∀ (h' : Heap) (tk : Nat) (e t : Addr), (∀ b o, s.heap.get? b = some o → h'.get? b = some o) → s.heap.get? e = none → h'.get? e = some (PySem.W.excRec (.ref C) t none .none .none (.bool false)) → Q (.ref e) { s with heap := h', toks := tk }) :
    wpAny (model X.prog X.w) X.A (call (.ref C) []) Q X.xe s := by
  obtain ⟨nm, N', qn, bs, bm, hdct, sn, sub, ab, col, dd, k0, k1, k2, k3, k5, hC, hT⟩ := PySem.W.excInit_of I.kIn h.q
  obtain ⟨fI, hi⟩ := h.ini
  obtain ⟨cc, cda, st, p2, p3, qual, oc, kV, doc, pm, ct, od, an, osl, ccl, cdd, vs, ccs, file, tf, cl, cld, csl, sh, hfI, hcd, hcda, hvs, hfile, hcc⟩ := hi.ex
  obtain ⟨p0, p1, p4, pc, txt, j, hbody⟩ := sh.body
  obtain ⟨ar, har, hars⟩ := sh.ar
  have hline := sh.line
  have hbind := sh.binds qual kV doc pm an (.ref cda) ct cc
  have hcell := sh.cell
  have hco := sh.co
  have hgen := sh.gen
  have hk := sh.kind
  have hsu := sh.su
  have hcl := sh.cl
  have hse := sh.se
  obtain ⟨hp, gg, dr, tk, os⟩ := s
  have hsz : hp.objs.size ≤ hp.objs.size + 1 := Nat.le_succ _
  have k1' : ∀ b o, hp.get? b = some o → ((hp.push (PySem.W.kdv_tup [])).push (PySem.HandSPX.excO C hp.objs.size)).get? b = some o := fun b o e => Heap.get?_push_of_some _ (Heap.get?_push_of_some _ e)
  have hget : ((hp.push (PySem.W.kdv_tup [])).push (PySem.HandSPX.excO C hp.objs.size)).get? (hp.objs.size + 1) = some (PySem.HandSPX.excO C hp.objs.size) := by heap_get
  refine wpAny_call (PySem.HandSPX.call_own F.excBase_ValueError hT hC (PySem.W.looks_findIn I.kIn hi.i) (fun self => PySem.W.bind_fn I.kIn self hi.ti) (Nat.zero_le _) ?_)
  have above : hp.objs.size ≤ ((hp.push (PySem.W.kdv_tup [])).push (PySem.HandSPX.excO C hp.objs.size)).objs.size := by rw [Heap.size_push, Heap.size_push]; omega
  generalize hh1 : (hp.push (PySem.W.kdv_tup [])).push (PySem.HandSPX.excO C hp.objs.size) = h1 at k1' hget above
  have hnew : hp.get? (hp.objs.size + 1) = none := by
    cases e : hp.get? (hp.objs.size + 1) with
    | none => rfl
    | some o => exact absurd (Heap.lt_size e) (Nat.not_lt.mpr (Nat.le_succ _))
  generalize he0 : hp.objs.size + 1 = e0 at hget hnew
  have kI := I.kIn
  have glob := I.ok.mod.glob.keeps I.bk
  obtain ⟨mb, blt, hmb⟩ := I.ok.mod.blt
  have blt := blt.keeps I.bk
  have KX1 : X.K.In h1 := kI.keeps k1'
  refine ks_codeAny_call_defAt (fd := PySem.W.ksFn "__init__" qual (defArgs st) (defBody st) (defScope st) .none kV doc pm an (.ref cda) ct cc) (body := defBody st) (binds := [("self", .ref e0)])
    (by rw [make_depth]; have := hr.dp; omega) (KX1 _ _ hfI) rfl (I.nolimit.keeps k1') (PySem.W.codeRec_of KX1 hcd) rfl (hbind _ _) hcell ?_ ?_ hco hgen hk
  · intro y hy
    rw [List.mem_singleton.mp hy]
    exact hse
  intro h2 hns2 k2'
  have KX2 : X.K.In h2 := KX1.keeps k2'
  have kk2 : ∀ b o, hp.get? b = some o → h2.get? b = some o := fun b o e => k2' b o (k1' b o e)
  rw [hbody]
  refine ks_wpAt_execs_cons (ks_wpAt_Expr_any (ks_wpAt_MethodCall (pl := (do return (← importBound (.Call (.Name "super" p0) [] [] p1) (callEnv _ _ _)).getD true)) ?_ (sup_eq hline)) (by show ((defScope st).kind == .module && _) = false; rw [hk]; rfl))
  refine ks_wpAt_super_base (f := fI) (cc := cda) (ar := ar) hsu hcl (by decide) rfl (KX2 _ _ hfI) rfl har rfl (KX2 _ _ hcda) rfl hvs hfile h.ps ?_
  refine PySem.W.ks_loadName_global hk hsu (Calls.loadGlobal_builtin (glob.keeps kk2) h.ms (blt.keeps kk2) ((hmb _ (by decide)).trans PyProof.Rows.Boot.«super») ⟨rfl, ?_⟩)
  refine wpAny_loadName_free hk hcl rfl ⟨_, KX2 _ _ hcc, rfl⟩ ?_
  rw [hars]
  refine wpAny_loadName_local hk hse hns2 rfl ?_
  obtain ⟨oD, cdD, hD1, hD2⟩ : ∃ oD cdD, h2.get? C = some oD ∧ oD.data = .cls cdD := ⟨_, _, kk2 _ _ hC, rfl⟩
  refine ks_wpAny_isType_cls hD1 hD2 ⟨rfl, ?_⟩
  refine ks_wpAny_call_super hD1 hD2 (k2' _ _ hget) rfl (fun c z => by cases z) (PySem.W.looks_mroIn KX2 h.mr) (fun h3 hso k3' => ?_)
  have KX3 : X.K.In h3 := KX2.keeps k3'
  have he3 := k3' _ _ (k2' _ _ hget)
  have hC3 := k3' _ _ (kk2 _ _ hC)
  have hsu2 := h.su
  have hne : e0 ≠ C := fun z => absurd (Heap.lt_size hC) (by rw [← z, ← he0]; exact Nat.not_lt.mpr (Nat.le_succ _))
  cases hc : PySem.W.clsIn X.K C with
  | none => unfold PySem.W.ks_superIn at hsu2; rw [hc] at hsu2; cases hsu2
  | some cd =>
    unfold PySem.W.ks_superIn at hsu2
    rw [hc] at hsu2
    have I3 : PySem.W.InstAt h3 e0 (PySem.HandSPX.excO C hp.objs.size) C none := ⟨he3, rfl, rfl, trivial⟩
    refine PySem.W.kxs_getMethod PySem.W.kxs_ValueError hso (PySem.W.looks_opaque KX3 h.op) (l₀ := cd.mro) ?_ rfl KX3 hsu2 (I3.type.andThen (PySem.W.looks_subIn KX3 h.sv)) hne (by decide) ?_
    · exact fun A Q E s k q => wpAny_bind ((PySem.W.looks_clsIn KX3 hc) A _ E s k (wpAny_pure q))
    have kk4 : ∀ b o, h3.get? b = some o → (h3.push (PySem.W.kxs_mw "ValueError.__init__" e0)).get? b = some o := fun b o e => Heap.get?_push_of_some _ e
    have hu : (h3.push (PySem.W.kxs_mw "ValueError.__init__" e0)).get? h3.objs.size = some (PySem.W.kxs_mw "ValueError.__init__" e0) := Heap.get?_push_at rfl rfl
    generalize (h3.push (PySem.W.kxs_mw "ValueError.__init__" e0)) = h4 at kk4 hu ⊢
    refine PySem.W.kxs_callWith (i := "ValueError.__init__") (x := e0) rfl (Calls.evalArgs_plain (Calls.spliced_cons ?_))
    refine Calls.Constant_str (k := j) (pos := pc) (Calls.spliced_nil ⟨hu, ?_⟩)
    have hns4 := (hns2.keeps k3').keeps kk4
    have ltL : h1.objs.size < h3.objs.size := by
      obtain ⟨oL, _, _, hL, _⟩ := hns2.keeps k3'
      exact Heap.lt_size hL
    have neL : e0 ≠ h1.objs.size := Nat.ne_of_lt (Heap.lt_size hget)
    have nou : hp.get? h3.objs.size = none := by
      cases e : hp.get? h3.objs.size with
      | none => rfl
      | some o => exact absurd (Heap.lt_size (k3' _ _ (kk2 _ _ e))) (Nat.lt_irrefl _)
    have Fq : PyProof.Rows.Fr hp h1.objs.size h4 _ := ⟨hns4, fun b o e => kk4 _ _ (k3' _ _ (kk2 _ _ e)), above⟩
    have Nq : PyProof.Rows.News hp h1.objs.size h4 [(e0, PySem.W.excObj C hp.objs.size none .none), (h3.objs.size, PySem.W.kxs_mw "ValueError.__init__" e0)] := fun p hp' => by
      rcases List.mem_cons.mp hp' with rfl | hp'
      · exact ⟨kk4 _ _ he3, neL, hnew⟩
      · rw [List.mem_singleton.mp hp']
        exact ⟨hu, Nat.ne_of_gt ltL, nou⟩
    refine PySem.W.kxs_call (t := hp.objs.size) (dv := none) (c2 := .none) (x := e0) (C := C) Fq kI Nq F.excBase_ValueError h.q (List.mem_cons_of_mem _ (List.mem_singleton_self _)) (.head (fun p hp' => ?_)) (by show 1 ≤ sizeLine; decide) (fun t' h5 F5 N5 _ => ?_)
    · rw [List.mem_singleton.mp hp']
      exact Nat.ne_of_gt (Nat.lt_trans (Heap.lt_size hget) ltL)
    have e5 := (N5 (e0, PySem.W.excObj C t' none .none) (by simp)).1
    show PySem.wpAt _ _ _ (execs [] _) _ _ _
    refine PySem.wpAt_of_wpAny (wpAny_pure ?_)
    refine ⟨rfl, ?_⟩
    have kk5 := F5.keep
    exact hq h5 _ e0 _ kk5 hnew e5
theorem pmk_ownI {X : Cx} {C : Addr} {x : Str} {k : Nat} {p pos : Pos} (h : ExcI X.prog X.K X.mg x C) (hr : Room k X.A) (hg : Gl X x) (hdb : (x == ("__debug__" : Str)) = false := by decide) :
    PMk X (.Call (.Name x p) [] [] pos) (fun _ H Q => Q (.ref C) none H) := by
  intro pins s σ H Q I hq
  refine wpAny_Call_Name_kw (ld_glob I hg h.m ?_ hdb)
  refine PySem.W.callWith_K0 I.kIn h.kp ?_
  show wpAny _ _ (call (.ref C) []) _ _ _
  refine call_ownI h hr I fun h' tk e t k1 hn he => ?_
  exact ⟨e, _, _, s, H, .ref C, none, rfl, I, k1, hn, he, ⟨rfl, rfl⟩, rfl, rfl, I.hok.gone hn, rfl, I.bare, raises_own h.sb h.ty, hq⟩
end HK

set_option Elab.async false
set_option linter.all false
set_option maxRecDepth 100000
set_option maxHeartbeats 1000000
namespace K18
open PySem PySem.Spec PyProof.Rows L2 HK DT
def topS (i : Nat) : Stmt := PySem.Challenge.pw_snapshelf_k18_blocks.main.body.getD i (.Pass ⟨0, 0, 0, 0⟩)
/-! __init__: slots self=0; cells [] -/
abbrev s_NoName_init : Stmt := inClass (topS 2) 0
abbrev n_NoName_init : List Str := ["self"]
theorem sh_NoName : ∃ p2 p3, SupSh s_NoName_init p2 p3 := ⟨_, _, ⟨⟨_, _, _, _, _, _, rfl⟩, rfl, fun _ _ _ _ _ _ _ _ _ _ => .of_eq rfl, ⟨_, rfl, rfl⟩, by decide +kernel, rfl, rfl, rfl, rfl, rfl, rfl⟩⟩
/-! is_number: slots one=0; cells [] -/
abbrev s_is_number : Stmt := topS 4
abbrev n_is_number : List Str := ["one"]
theorem sc_is_number : FnScope n_is_number ["one"] (defScope s_is_number) := ⟨rfl, rfl, rfl, by decide +kernel, rfl, by decide +kernel, by decide +kernel⟩
/-! is_number_to: slots one=0 most=1; cells [] -/
abbrev s_is_number_to : Stmt := topS 5
abbrev n_is_number_to : List Str := ["one", "most"]
theorem sc_is_number_to : FnScope n_is_number_to ["one", "most"] (defScope s_is_number_to) := ⟨rfl, rfl, rfl, by decide +kernel, rfl, by decide +kernel, by decide +kernel⟩
/-! is_content: slots one=0; cells [] -/
abbrev s_is_content : Stmt := topS 6
abbrev n_is_content : List Str := ["one"]
theorem sc_is_content : FnScope n_is_content ["one"] (defScope s_is_content) := ⟨rfl, rfl, rfl, by decide +kernel, rfl, by decide +kernel, by decide +kernel⟩
/-! is_leaf: slots one=0; cells [] -/
abbrev s_is_leaf : Stmt := topS 14
abbrev n_is_leaf : List Str := ["one"]
theorem sc_is_leaf : FnScope n_is_leaf ["one"] (defScope s_is_leaf) := ⟨rfl, rfl, rfl, by decide +kernel, rfl, by decide +kernel, by decide +kernel⟩
/-! name_of: slots code=0 letters=1 left=2 number=3; cells [] -/
abbrev s_name_of : Stmt := topS 9
abbrev n_name_of : List Str := ["code", "letters", "left", "number"]
theorem sc_name_of : FnScope n_name_of ["code"] (defScope s_name_of) := ⟨rfl, rfl, rfl, by decide +kernel, rfl, by decide +kernel, by decide +kernel⟩
/-! is_block: slots content=0 kind=1; cells [] -/
abbrev s_is_block : Stmt := topS 18
abbrev n_is_block : List Str := ["content", "kind"]
theorem sc_is_block : FnScope n_is_block ["content"] (defScope s_is_block) := ⟨rfl, rfl, rfl, by decide +kernel, rfl, by decide +kernel, by decide +kernel⟩
/-! is_file: slots content=0; cells [] -/
abbrev s_is_file : Stmt := topS 19
abbrev n_is_file : List Str := ["content"]
theorem sc_is_file : FnScope n_is_file ["content"] (defScope s_is_file) := ⟨rfl, rfl, rfl, by decide +kernel, rfl, by decide +kernel, by decide +kernel⟩
/-! is_folder_block: slots content=0 codes=1; cells [] -/
abbrev s_is_folder_block : Stmt := topS 20
abbrev n_is_folder_block : List Str := ["content", "codes"]
theorem sc_is_folder_block : FnScope n_is_folder_block ["content"] (defScope s_is_folder_block) := ⟨rfl, rfl, rfl, by decide +kernel, rfl, by decide +kernel, by decide +kernel⟩
/-! is_code: slots number=0; cells [] -/
abbrev s_is_code : Stmt := topS 21
abbrev n_is_code : List Str := ["number"]
theorem sc_is_code : FnScope n_is_code ["number"] (defScope s_is_code) := ⟨rfl, rfl, rfl, by decide +kernel, rfl, by decide +kernel, by decide +kernel⟩
/-! kind_of: slots content=0; cells [] -/
abbrev s_kind_of : Stmt := topS 22
abbrev n_kind_of : List Str := ["content"]
theorem sc_kind_of : FnScope n_kind_of ["content"] (defScope s_kind_of) := ⟨rfl, rfl, rfl, by decide +kernel, rfl, by decide +kernel, by decide +kernel⟩
/-! links: slots content=0 kind=1; cells [] -/
abbrev s_links : Stmt := topS 23
abbrev n_links : List Str := ["content", "kind"]
theorem sc_links : FnScope n_links ["content"] (defScope s_links) := ⟨rfl, rfl, rfl, by decide +kernel, rfl, by decide +kernel, by decide +kernel⟩
/-! height_of: slots many=0 height=1 reach=2; cells [] -/
abbrev s_height_of : Stmt := topS 24
abbrev n_height_of : List Str := ["many", "height", "reach"]
theorem sc_height_of : FnScope n_height_of ["many"] (defScope s_height_of) := ⟨rfl, rfl, rfl, by decide +kernel, rfl, by decide +kernel, by decide +kernel⟩
/-! level_sizes: slots many=0 sizes=1 level=2; cells [] -/
abbrev s_level_sizes : Stmt := topS 25
abbrev n_level_sizes : List Str := ["many", "sizes", "level"]
theorem sc_level_sizes : FnScope n_level_sizes ["many"] (defScope s_level_sizes) := ⟨rfl, rfl, rfl, by decide +kernel, rfl, by decide +kernel, by decide +kernel⟩
/-! _law_mixed: slots _law_cell=0 _law_k=1 _law_number=2; cells [] -/
abbrev s_l_mixed : Stmt := topS 27
abbrev n_l_mixed : List Str := ["_law_cell", "_law_k", "_law_number"]
theorem sc_l_mixed : FnScope n_l_mixed ["_law_cell", "_law_k"] (defScope s_l_mixed) := ⟨rfl, rfl, rfl, by decide +kernel, rfl, by decide +kernel, by decide +kernel⟩
/-! _law_draws: slots _law_script=0 _law_drawn=1 _law_k=2 _law_cell=3 _law_j=4; cells [] -/
abbrev s_l_draws : Stmt := topS 28
abbrev n_l_draws : List Str := ["_law_script", "_law_drawn", "_law_k", "_law_cell", "_law_j"]
theorem sc_l_draws : FnScope n_l_draws ["_law_script"] (defScope s_l_draws) := ⟨rfl, rfl, rfl, by decide +kernel, rfl, by decide +kernel, by decide +kernel⟩
/-! _law_next: slots _law_drawn=0; cells [] -/
abbrev s_l_next : Stmt := topS 29
abbrev n_l_next : List Str := ["_law_drawn"]
theorem sc_l_next : FnScope n_l_next ["_law_drawn"] (defScope s_l_next) := ⟨rfl, rfl, rfl, by decide +kernel, rfl, by decide +kernel, by decide +kernel⟩
/-! _law_same: slots _law_found=0 _law_due=1; cells [] -/
abbrev s_l_same : Stmt := topS 30
abbrev n_l_same : List Str := ["_law_found", "_law_due"]
theorem sc_l_same : FnScope n_l_same ["_law_found", "_law_due"] (defScope s_l_same) := ⟨rfl, rfl, rfl, by decide +kernel, rfl, by decide +kernel, by decide +kernel⟩
/-! _law_all_same: slots _law_found=0 _law_due=1 _law_one=2 _law_other=3; cells [] -/
abbrev s_l_all_same : Stmt := topS 31
abbrev n_l_all_same : List Str := ["_law_found", "_law_due", "_law_one", "_law_other"]
theorem sc_l_all_same : FnScope n_l_all_same ["_law_found", "_law_due"] (defScope s_l_all_same) := ⟨rfl, rfl, rfl, by decide +kernel, rfl, by decide +kernel, by decide +kernel⟩
/-! _law_code: slots _law_number=0 _law_code_here=1 _law_k=2; cells [] -/
abbrev s_l_code : Stmt := topS 32
abbrev n_l_code : List Str := ["_law_number", "_law_code_here", "_law_k"]
theorem sc_l_code : FnScope n_l_code ["_law_number"] (defScope s_l_code) := ⟨rfl, rfl, rfl, by decide +kernel, rfl, by decide +kernel, by decide +kernel⟩
/-! _law_tops: slots _law_many=0; cells [] -/
abbrev s_l_tops : Stmt := topS 33
abbrev n_l_tops : List Str := ["_law_many"]
theorem sc_l_tops : FnScope n_l_tops ["_law_many"] (defScope s_l_tops) := ⟨rfl, rfl, rfl, by decide +kernel, rfl, by decide +kernel, by decide +kernel⟩
/-! _law_places: slots _law_drawn=0 _law_many=1 _law_number=2 _law_size=3 _law_k=4; cells ['_law_number', '_law_size'] -/
abbrev s_l_places : Stmt := topS 34
abbrev n_l_places : List Str := ["_law_drawn", "_law_many", "_law_number", "_law_size", "_law_k"]
theorem sc_l_places : FnScope n_l_places ["_law_drawn", "_law_many"] (defScope s_l_places) := ⟨rfl, rfl, rfl, by decide +kernel, rfl, by decide +kernel, by decide +kernel⟩
/-! _law_block: slots _law_drawn=0 _law_way=1 _law_number=2 _law_codes=3 _law_places_here=4 _law_content=5 _law_code_here=6 _law_place=7 _law_k=8; cells ['_law_drawn', '_law_number'] -/
abbrev s_l_block : Stmt := topS 35
abbrev n_l_block : List Str := ["_law_drawn", "_law_way", "_law_number", "_law_codes", "_law_places_here", "_law_content", "_law_code_here", "_law_place", "_law_k"]
theorem sc_l_block : FnScope n_l_block ["_law_drawn", "_law_way"] (defScope s_l_block) := ⟨rfl, rfl, rfl, by decide +kernel, rfl, by decide +kernel, by decide +kernel⟩
/-! _law_links: slots _law_content=0 _law_k=1; cells ['_law_content'] -/
abbrev s_l_links : Stmt := topS 36
abbrev n_l_links : List Str := ["_law_content", "_law_k"]
theorem sc_l_links : FnScope n_l_links ["_law_content"] (defScope s_l_links) := ⟨rfl, rfl, rfl, by decide +kernel, rfl, by decide +kernel, by decide +kernel⟩
/-! _law_height: slots _law_many=0 _law_height_here=1; cells [] -/
abbrev s_l_height : Stmt := topS 37
abbrev n_l_height : List Str := ["_law_many", "_law_height_here"]
theorem sc_l_height : FnScope n_l_height ["_law_many"] (defScope s_l_height) := ⟨rfl, rfl, rfl, by decide +kernel, rfl, by decide +kernel, by decide +kernel⟩
/-! _law_files: slots _law_many=0 _law_tops_here=1 _law_other=2 _law_content=3 _law_found=4; cells [] -/
abbrev s_l_files : Stmt := topS 38
abbrev n_l_files : List Str := ["_law_many", "_law_tops_here", "_law_other", "_law_content", "_law_found"]
theorem sc_l_files : FnScope n_l_files [] (defScope s_l_files) := ⟨rfl, rfl, rfl, by decide +kernel, rfl, by decide +kernel, by decide +kernel⟩
/-! law: slots _law_script=0 _law_drawn=1 _law_k=2 _law_content=3; cells [] -/
abbrev s_law : Stmt := topS 39
abbrev n_law : List Str := ["_law_script", "_law_drawn", "_law_k", "_law_content"]
theorem sc_law : FnScope n_law ["_law_script"] (defScope s_law) := ⟨rfl, rfl, rfl, by decide +kernel, rfl, by decide +kernel, by decide +kernel⟩
/-! ### names, paths, leaves, deeds: what they are, of any data -/
def letters : Str := "abcdefghijklmnopqrstuvwxyz"
def isLet (c : Nat) : Bool := decide (c ∈ letters.cps.toList)
def isNm (s : Str) : Bool := decide ((1:Int) ≤ (s.length : Int)) && decide ((s.length : Int) ≤ 8) && s.cps.toList.all isLet
def nameD : PyData → Bool
  | .str s => isNm s
  | _ => false
def pathD : PyData → Bool
  | .tuple ds => decide ((ds.length : Int) ≤ 6) && ds.all nameD
  | _ => false
def innerD : PyData → Bool
  | .tuple ds => pathD (.tuple ds) && decide (0 < (ds.length : Int))
  | _ => false
def isNumD : PyData → Bool
  | .int _ => true
  | _ => false
def numTo (m : Int) : PyData → Bool
  | .int i => decide (0 ≤ i) && decide (i ≤ m)
  | _ => false
def leafD : PyData → Bool
  | .tuple ds => decide ((ds.length : Int) ≤ 8) && ds.all (numTo 255)
  | _ => false

def kinds : List Str := ["leaf", "branch", "file", "folder"]
structure Txt (K : PySem.W.Frag) (mg : Str → Option Value) : Prop where
  b_abs : mg "abs" = none
  b_all : mg "all" = none
  b_bool : mg "bool" = none
  b_divmod : mg "divmod" = none
  b_int : mg "int" = none
  b_isinstance : mg "isinstance" = none
  b_len : mg "len" = none
  b_list : mg "list" = none
  b_min : mg "min" = none
  b_range : mg "range" = none
  b_reversed : mg "reversed" = none
  b_set : mg "set" = none
  b_sorted : mg "sorted" = none
  b_str : mg "str" = none
  b_tuple : mg "tuple" = none
  b_zip : mg "zip" = none
  m_BUNDLE : GloE mg "BUNDLE" (.int 4)
  m_LETTERS : GloE mg "LETTERS" (.str letters)
  m_MOST_LEAVES : GloE mg "MOST_LEAVES" (.int 64)
  m_MOST_NUMBERS : GloE mg "MOST_NUMBERS" (.int 8)
  m_MOST_THINGS : GloE mg "MOST_THINGS" (.int 8)
section
variable {P : Program} {w : World} {K : PySem.W.Frag} {mg : Str → Option Value} {base : Heap} {f : Addr} {cd : Value}
/-! ### draws: whole numbers from 0 on, below 2147483629 -/
def Rg (x : Int) : Prop := 0 ≤ x ∧ x < 2147483629
structure Dr (ds : List Int) : Prop where
  len : ds.length ≤ 2000
  rg : ∀ x ∈ ds, Rg x
theorem Dr.snoc {ds : List Int} {x : Int} (h : ∀ x ∈ ds, Rg x) (hx : Rg x) : ∀ y ∈ ds ++ [x], Rg y := fun y hy => by
  rcases List.mem_append.mp hy with h1 | h1
  · exact h y h1
  · rw [List.mem_singleton.mp h1]
    exact hx
theorem rg_mod (x : Int) : Rg (x % 2147483629) := ⟨Int.emod_nonneg _ (by decide), Int.emod_lt_of_pos _ (by decide)⟩
theorem map_snoc (ds : List Int) (x : Int) : (ds ++ [x]).map V.int = ds.map V.int ++ [.int x] := by rw [List.map_append] <;> rfl
/-- _law_mixed: any number in the range -/
def spMixed : Sp := fun vs H Q _ => ∃ c k : Int, vs = [.int c, .int k] ∧ -1000 ≤ k ∧ k ≤ 1000 ∧ ∀ m, Rg m → Q (.int m) H
theorem ok_l_mixed (F : FnAt K mg "_law_mixed" s_l_mixed ["_law_cell", "_law_k"] f cd) : CalE P w K mg base CX0 1 "_law_mixed" spMixed := by
  refine F.cal sc_l_mixed (fun vs H Q E h => ?_) (fun A outer s H vs Q E hr h => ?_)
  · obtain ⟨c, k, rfl, _⟩ := h
    rfl
  · obtain ⟨c, k, rfl, k1, k2, q⟩ := h
    refine ⟨_, (pss_cons (ps_set (i := 2) sc_l_mixed.nd rfl (.inl rfl) (pe_op op_mod (pe_op op_add (pe_op op_add (pe_op op_mul (pe_op op_mod (pv 0) pe_int) pe_int) (pe_op op_mul (pe_op op_mul pe_int (pv 1)) (pv 1))) pe_int) pe_int))
      (pss_one (ps_ret (pe_op op_mod (pe_op op_mul (pv 2) (pv 2)) pe_int)))), ?_⟩
    have h1 : (0:Int) < 2147483647 := by decide
    have a1 := Int.emod_nonneg c (b := 2147483647) (by decide)
    have a2 := Int.emod_lt_of_pos c (b := 2147483647) (by decide)
    refine ⟨_, rfl, _, _, rfl, rfl, h1, _, _, rfl, rfl, .inr ⟨by decide, by decide⟩, _, rfl, _, _, rfl, rfl, .inl ⟨by decide, by decide⟩, _, rfl, _, _, rfl, rfl, .inr ⟨by omega, by omega⟩, _, _, rfl, rfl, _, _, rfl, rfl, _, _, rfl, rfl, h1, ?_⟩
    generalize hz : (c % 2147483647 * 48271 + 7919 * k * k + 104729) = z
    have b1 := Int.emod_nonneg z (b := 2147483647) (by decide)
    have b2 := Int.emod_lt_of_pos z (b := 2147483647) (by decide)
    refine ⟨_, rfl, _, rfl, _, _, rfl, rfl, .inl ⟨by omega, by omega⟩, _, _, rfl, rfl, (by show (0:Int) < 2147483629; decide), ?_⟩
    exact q _ (rg_mod _)
/-- _law_draws: a new list of numbers in the range -/
def spDraws (K : PySem.W.Frag) (tb : List Addr) : Sp := fun vs H Q _ => ∃ (a : Addr) (ns : List Int), vs = [.ref a] ∧ SqL K H a (ns.map V.int) ∧ ns.length ≤ 63 ∧ Tabs tb H ∧
  ∀ H' d ds, Ext tb [] H H' → H d = none → Dr ds → H' d = some (.lst (ds.map V.int)) → Q (.ref d) H'
theorem ok_l_draws {tb : List Addr} (T : Txt K mg) (F : FnAt K mg "_law_draws" s_l_draws ["_law_script"] f cd) (C_l_mixed : CalE P w K mg base CX0 1 "_law_mixed" spMixed) : CalE P w K mg base CX0 2 "_law_draws" (spDraws K tb) := by
  refine F.cal sc_l_draws (fun vs H Q E h => ?_) (fun A outer s H vs Q E hr h => ?_)
  · obtain ⟨a, ns, rfl, _⟩ := h
    rfl
  · obtain ⟨a, ns, rfl, hS, hl, hT, q⟩ := h
    refine ⟨_, (pss_cons (ps_set (i := 1) sc_l_draws.nd rfl (.inl rfl) (pe_lst pa_nil))
      (pss_cons (ps_for PassesOwn.never rfl (pi_range1 (by rfl) T.b_range (pa_cons (pe_callB (call_min2 rfl) (by rfl) T.b_min (by decide +kernel) (pa_cons (pe_callB (q_len (K := K) rfl) (by rfl) T.b_len PySem.boot_len (pa_cons (pv 0) pa_nil)) (pa_cons pe_int pa_nil))) pa_nil)) (pg_name (i := 2) sc_l_draws.nd rfl (.inl rfl)) (pss_cons (ps_set (i := 3) sc_l_draws.nd rfl (.inl rfl) (pe_callB call_abs (by rfl) T.b_abs (by decide +kernel) (pa_cons (pe_ix (q_ixL (K := K) rfl) (pv 0) (pv 2) (fun _ _ => rfl)) pa_nil)))
      (C8.pss_cut (ps_if (pt_cmpR op_lt (pv 3) (pe_op op_pow pe_int pe_int) (nomark _)) (pss_one (ps_for PassesOwn.never rfl (pi_range1 (by rfl) T.b_range (pa_cons pe_int pa_nil)) (pg_name (i := 4) sc_l_draws.nd rfl (.inl rfl)) (pss_one (ps_expr (q_bm (K := K) rfl PySem.F.plainAttrs_list PySem.F.slot_list_append PySem.F.type_list_append mt_append (pv 1) (pa_cons (pe_cal C_l_mixed (hr.mono (by first | decide | omega)) (by rfl) (pa_cons (pe_cal C_l_mixed (hr.mono (by first | decide | omega)) (by rfl) (pa_cons (pv 3) (pa_cons (pe_op op_add (pe_op op_mul pe_int (pv 4)) pe_int) pa_nil))) (pa_cons (pe_op op_add (pe_op op_add (pv 4) (pv 2)) pe_int) pa_nil))) pa_nil)))))) pss_nil)
      (C8.pss_cut (ps_while PassesOwn.never (PW.pt (pw_and (pt_cmpR op_ge (pv 3) (pe_op op_pow pe_int pe_int) (nomark _)) (pw_and1 (pt_cmpR op_lt (pe_callB (q_len (K := K) rfl) (by rfl) T.b_len PySem.boot_len (pa_cons (pv 1) pa_nil)) pe_int (nomark _))))) (pss_cons (ps_expr (q_bm (K := K) rfl PySem.F.plainAttrs_list PySem.F.slot_list_append PySem.F.type_list_append mt_append (pv 1) (pa_cons (pe_op op_mod (pv 3) pe_int) pa_nil)))
      (pss_one (ps_set (i := 3) sc_l_draws.nd rfl (.inl rfl) (pe_op op_fdivW (pv 3) pe_int)))))
      (pss_one (ps_if (pt_cmpR op_ge (pv 3) pe_int (nomark _)) (pss_one (ps_expr (q_bm (K := K) rfl PySem.F.plainAttrs_list PySem.F.slot_list_append PySem.F.type_list_append mt_append (pv 1) (pa_cons (pe_op op_mod (pv 3) pe_int) pa_nil)))) pss_nil))))))
      (pss_one (ps_ret (pv 1))))), ?_⟩
    have p18 : (10:Int) ^ (18:Int).toNat = 1000000000000000000 := by decide
    -- drawn = []
    refine ⟨by show 0 ≤ sizeLine; decide, fun d nd => ?_⟩
    have e0 : Ext tb [] H (upd H d (.lst [])) := Ext.new hT nd
    -- for k in range(min(len(script), 63))
    refine ⟨_, rfl, _, _, rfl, .inl ⟨_, e0.sqL hT hS (by simp), rfl⟩, _, _, rfl, ?_⟩
    have hn : (if (63:Int) < ((ns.map V.int).length : Int) then (63:Int) else ((ns.map V.int).length : Int)) = (ns.length : Int) := by
      rw [List.length_map]
      split <;> omega
    rw [hn]
    refine ⟨_, rfl, by omega, by omega, for_range (lo := 0) (n := (ns.length : Int).toNat) (fun i σ H1 => ∃ (ds : List Int) (y2 y3 y4 : Option V), σ = [some (.ref a), some (.ref d), y2, y3, y4] ∧ Ext tb [] H H1 ∧ H1 d = some (.lst (ds.map V.int)) ∧ (∀ x ∈ ds, Rg x) ∧ ds.length ≤ 900 + 13 * i)
      ⟨[], none, none, none, rfl, e0, upd_same, fun x hx => (by cases hx), by simp⟩ ?_ ?_⟩
    · rintro i σ H1 hi ⟨ds, y2, y3, y4, rfl, ex, hd, hrg, hlen⟩
      have hi' : i < ns.length := by omega
      have g1 : (ns.map V.int)[i]? = some (.int ns[i]) := by rw [List.getElem?_map, List.getElem?_eq_getElem hi'] <;> rfl
      generalize hz : ns[i] = z at g1
      -- cell = abs(script[k])
      refine ⟨_, rfl, _, rfl, a, _, (i : Int), .int z, rfl, by simp, ex.sqL hT hS (by simp), atI_nat g1, _, rfl, ?_⟩
      generalize hc : (if z < 0 then -z else z) = c
      have hc0 : 0 ≤ c := by rw [← hc]; split <;> omega
      -- if cell < 10 ** 18
      refine ⟨fun σ' H2 => ∃ (ds1 : List Int) (y4 : Option V), σ' = [some (.ref a), some (.ref d), some (.int (0 + (i : Int))), some (.int c), y4] ∧ Ext tb [] H H2 ∧ H2 d = some (.lst (ds1.map V.int)) ∧ (∀ x ∈ ds1, Rg x) ∧ (ds1.length ≤ 900 + 13 * i ∨ (ds1.length ≤ 900 + 13 * i + 12 ∧ c < 1000000000000000000)), ?_, ?_⟩
      · refine ⟨_, rfl, _, _, rfl, rfl, ⟨by decide, by decide, by decide⟩, _, _, rfl, rfl, _, rfl, ite2 (fun e => ?_) (fun e => ?_)⟩
        · have hlt : c < 1000000000000000000 := of_decide_eq_true e
          refine ⟨_, rfl, by decide, by decide, for_range (lo := 0) (n := (12 : Int).toNat) (fun j σ H2 => ∃ (ds1 : List Int) (y4 : Option V), σ = [some (.ref a), some (.ref d), some (.int (0 + (i : Int))), some (.int c), y4] ∧ Ext tb [] H H2 ∧ H2 d = some (.lst (ds1.map V.int)) ∧ (∀ x ∈ ds1, Rg x) ∧ ds1.length ≤ 900 + 13 * i + j)
            ⟨ds, y4, rfl, ex, hd, hrg, by omega⟩ ?_ ?_⟩
          · rintro j σ H2 hj ⟨ds1, y4, rfl, ex2, hd2, hrg2, hlen2⟩
            have hj' : j < 12 := hj
            refine ⟨_, rfl, .inl ⟨rfl, _, SqL.of hd2⟩, _, rfl, _, rfl, _, _, rfl, rfl, .inl ⟨by decide, by decide⟩, _, _, rfl, rfl, _, _, rfl, by omega, by omega, fun m hm => ?_⟩
            refine ⟨_, rfl, _, rfl, _, _, rfl, rfl, _, _, rfl, rfl, _, _, rfl, by omega, by omega, fun m2 hm2 => ?_⟩
            refine ⟨d, _, _, rfl, rfl, hd2, ?_, ?_⟩
            · rw [List.length_map]
              exact Nat.lt_of_le_of_lt hlen2 (Nat.lt_of_lt_of_le (show 900 + 13 * i + j < 100000 by omega) (by decide))
            · refine ⟨ds1 ++ [m2], some (.int (0 + (j : Int))), rfl, Ext.own hT ex2 nd, ?_, Dr.snoc hrg2 hm2, by rw [List.length_append]; show ds1.length + 1 ≤ _; omega⟩
              rw [upd_same, map_snoc]
          · rintro σ H2 ⟨ds1, y4, rfl, ex2, hd2, hrg2, hlen2⟩
            exact ⟨ds1, y4, rfl, ex2, hd2, hrg2, .inr ⟨hlen2, hlt⟩⟩
        · exact ⟨ds, y4, rfl, ex, hd, hrg, .inl hlen⟩
      · rintro σ' H2 ⟨ds1, y4, rfl, ex2, hd2, hrg2, hlen2⟩
        -- the while
        refine ⟨fun σ' H2 => ∃ (ds1 : List Int) (c2 : Int) (y4 : Option V), σ' = [some (.ref a), some (.ref d), some (.int (0 + (i : Int))), some (.int c2), y4] ∧ Ext tb [] H H2 ∧ H2 d = some (.lst (ds1.map V.int)) ∧ (∀ x ∈ ds1, Rg x) ∧ ds1.length ≤ 900 + 13 * i + 12, ?_, ?_⟩
        · refine ⟨fun m σ' H2 => ∃ (ds1 : List Int) (c2 : Int), m = c2.toNat ∧ 0 ≤ c2 ∧ σ' = [some (.ref a), some (.ref d), some (.int (0 + (i : Int))), some (.int c2), y4] ∧ Ext tb [] H H2 ∧ H2 d = some (.lst (ds1.map V.int)) ∧ (∀ x ∈ ds1, Rg x) ∧ (ds1.length ≤ 900 + 13 * i ∨ (ds1.length ≤ 900 + 13 * i + 12 ∧ c2 < 1000000000000000000)), ⟨c.toNat, ds1, c, rfl, hc0, rfl, ex2, hd2, hrg2, hlen2⟩, ?_⟩
          rintro m σ' H3 ⟨ds2, c2, rfl, hc2, rfl, ex3, hd3, hrg3, hlen3⟩
          refine ⟨_, rfl, _, _, rfl, rfl, ⟨by decide, by decide, by decide⟩, _, _, rfl, rfl, _, rfl, ite2 (fun e => ?_) (fun e => ?_)⟩
          · have hge : 1000000000000000000 ≤ c2 := of_decide_eq_true e
            refine ⟨_, rfl, _, _, rfl, .inl ⟨_, SqL.of hd3, rfl⟩, _, _, rfl, rfl, _, rfl, ite2 (fun e2 => ?_) (fun e2 => ?_)⟩
            · have h900 : ((ds2.map V.int).length : Int) < 900 := of_decide_eq_true e2
              rw [List.length_map] at h900
              refine ⟨fun σ' H' => ∃ ds3 : List Int, σ' = [some (.ref a), some (.ref d), some (.int (0 + (i : Int))), some (.int (c2 / 2147483629)), y4] ∧ Ext tb [] H H' ∧ H' d = some (.lst (ds3.map V.int)) ∧ (∀ x ∈ ds3, Rg x) ∧ ds3.length ≤ 900 + 13 * i, ?_, ?_⟩
              · rintro σ' H' ⟨ds3, rfl, ex4, hd4, hrg4, hlen4⟩
                have h1 : c2 / 2147483629 < c2 := Int.ediv_lt_self_of_pos_of_ne_one (by omega) (by decide)
                have h2 : 0 ≤ c2 / 2147483629 := Int.ediv_nonneg hc2 (by decide)
                exact ⟨_, by omega, ds3, _, rfl, h2, rfl, ex4, hd4, hrg4, .inl hlen4⟩
              · refine ⟨_, rfl, .inl ⟨rfl, _, SqL.of hd3⟩, _, rfl, _, _, rfl, rfl, (by show (0:Int) < 2147483629; decide), d, _, _, rfl, rfl, hd3, ?_, ?_⟩
                · rw [List.length_map]
                  exact Nat.lt_of_lt_of_le (show ds2.length < 100000 by omega) (by decide)
                · refine ⟨_, rfl, _, _, rfl, rfl, wide_div (b := 31) (by decide) (by decide) (by decide) (by decide), ?_⟩
                  refine ⟨ds2 ++ [c2 % 2147483629], rfl, Ext.own hT ex3 nd, ?_, Dr.snoc hrg3 (rg_mod _), by rw [List.length_append]; show ds2.length + 1 ≤ _; omega⟩
                  rw [upd_same, map_snoc]
            · exact ⟨ds2, c2, y4, rfl, ex3, hd3, hrg3, by omega⟩
          · refine iteF ?_
            exact ⟨ds2, c2, y4, rfl, ex3, hd3, hrg3, by omega⟩
        · rintro σ' H3 ⟨ds2, c2, y4, rfl, ex3, hd3, hrg3, hlen3⟩
          -- if cell >= 2147483629
          refine ⟨_, rfl, _, _, rfl, rfl, _, rfl, ite2 (fun e => ?_) (fun e => ?_)⟩
          · refine ⟨_, rfl, .inl ⟨rfl, _, SqL.of hd3⟩, _, rfl, _, _, rfl, rfl, (by show (0:Int) < 2147483629; decide), d, _, _, rfl, rfl, hd3, ?_, ?_⟩
            · rw [List.length_map]
              exact Nat.lt_of_lt_of_le (show ds2.length < 100000 by omega) (by decide)
            · refine ⟨ds2 ++ [c2 % 2147483629], _, _, _, rfl, Ext.own hT ex3 nd, ?_, Dr.snoc hrg3 (rg_mod _), by rw [List.length_append]; show ds2.length + 1 ≤ _; omega⟩
              rw [upd_same, map_snoc]
          · exact ⟨ds2, _, _, _, rfl, ex3, hd3, hrg3, by omega⟩
    · rintro σ H1 ⟨ds, y2, y3, y4, rfl, ex, hd, hrg, hlen⟩
      refine ⟨_, rfl, q _ d ds ex nd ⟨by omega, hrg⟩ hd⟩
/-- _law_next: a number in the range; the list of draws is another one -/
def spNext (tb : List Addr) : Sp := fun vs H Q _ => ∃ (d : Addr) (ds : List Int), vs = [.ref d] ∧ H d = some (.lst (ds.map V.int)) ∧ Dr ds ∧ Tabs tb H ∧
  ∀ x r H', Rg x → Dr r → Ext tb [d] H H' → H' d = some (.lst (r.map V.int)) → Q (.int x) H'
theorem ok_l_next {tb : List Addr} (F : FnAt K mg "_law_next" s_l_next ["_law_drawn"] f cd) : CalE P w K mg base CX0 1 "_law_next" (spNext tb) := by
  refine F.cal sc_l_next (fun vs H Q E h => ?_) (fun A outer s H vs Q E hr h => ?_)
  · obtain ⟨d, ds, rfl, _⟩ := h
    rfl
  · obtain ⟨d, ds, rfl, hd, hD, hT, q⟩ := h
    refine ⟨_, (pss_cons (ps_if (pt_cmpR (q_eqD (K := K) rfl hr.units) (pv 0) (pe_lst pa_nil) (nomark _)) (pss_one (ps_ret pe_int)) pss_nil)
      (pss_one (ps_ret (q_bm (K := K) rfl PySem.F.plainAttrs_list PySem.F.slot_list_pop PySem.F.type_list_pop mt_popAt (pv 0) (pa_cons pe_int pa_nil))))), ?_⟩
    refine ⟨_, rfl, by show 0 ≤ sizeLine; decide, fun p np => ?_⟩
    have e0 : Ext tb [d] H (upd H p (.lst [])) := Ext.new hT np
    have hd1 : (upd H p (.lst [])) d = some (.lst (ds.map V.int)) := by rw [upd_ne (ne_of_none hd np)]; exact hd
    cases ds with
    | nil =>
      refine ⟨.list [], .list [], .lst (SqL.of hd1) .nil, .lst (SqL.of upd_same) .nil, rfl, rfl, _, rfl, ?_⟩
      refine iteT ?_
      exact q 0 [] _ ⟨by decide, by decide⟩ ⟨by simp, fun x hx => by cases hx⟩ e0 hd1
    | cons x r =>
      refine ⟨.list ((x :: r).map PyData.int), .list [], .lst (SqL.of hd1) (dp_ints _), .lst (SqL.of upd_same) .nil, sh_ints _, rfl, _, rfl, ?_⟩
      refine iteF ?_
      refine ⟨_, rfl, .inl ⟨rfl, _, SqL.of hd1⟩, d, _, 0, 0, .int x, rfl, rfl, hd1, by decide, by decide, ?_, rfl, ?_⟩
      · simp [seqIndex?]
      · exact q x r _ (hD.rg x (List.mem_cons_self ..)) ⟨by have := hD.len; simp at this; omega, fun y hy => hD.rg y (List.mem_cons_of_mem _ hy)⟩ (e0.trans (Ext.mut (by simp) (ne_tab hT hd fun ps z => by cases z))) upd_same

/-- texts are not too long in it -/
def shortD : PyData → Prop
  | .str s => s.length ≤ 1000
  | _ => True
theorem num_int {d : PyData} (h : isNumD d = true) : ∃ i, d = .int i := by
  cases d with
  | int i => exact ⟨i, rfl⟩
  | _ => cases h
def spIsNum (K : PySem.W.Frag) : Sp := fun vs H Q _ => ∃ (v : V) (d : PyData), vs = [v] ∧ Rp K H v d ∧ Q (.bl (isNumD d)) H
theorem num_rd {v : V} {d : PyData} {H : Hp} {Q : VK} {σ : L2.St} (h0 : σ[0]? = some (some v)) (h : Rp K H v d) (q : Q (.bl (isNumD d)) H) :
    tAndV (tCB (rIsi K) (tCons (tVar 0) (tCons (tC (.ty "int")) tNil))) (tNotV (tCB (rIsi K) (tCons (tVar 0) (tCons (tC (.ty "bool")) tNil)))) σ H Q := by
  have ty := Rp_ty h
  refine ⟨_, h0, _, _, .type (tyN d), _, _, rfl, .ty _, ty, kit_ty (kit_int d), _, rfl, ?_⟩
  cases e : isIntB d with
  | false =>
    refine iteF ?_
    have : isNumD d = false := by cases d <;> first | rfl | cases e
    exact this ▸ q
  | true =>
    refine iteT ?_
    refine ⟨_, h0, _, _, .type (tyN d), _, _, rfl, .ty _, ty, kit_ty (kit_bool d), _, rfl, ?_⟩
    have : isNumD d = !isBl d := by cases d <;> first | rfl | cases e
    exact this ▸ q
theorem ok_is_number (T : Txt K mg) (F : FnAt K mg "is_number" s_is_number ["one"] f cd) : CalE P w K mg base CX0 1 "is_number" (spIsNum K) := by
  refine F.cal sc_is_number (fun vs H Q E h => ?_) (fun A outer s H vs Q E hr h => ?_)
  · obtain ⟨v, d, rfl, _⟩ := h
    rfl
  · obtain ⟨v, d, rfl, hd, q⟩ := h
    refine ⟨_, (pss_one (ps_ret (pe_and (pe_callB (q_isi (K := K) rfl) (by rfl) T.b_isinstance (by decide +kernel) (pa_cons (pv 0) (pa_cons (pe_bltn (v := .ty "int") (by rfl) T.b_int (by decide +kernel) rfl) pa_nil))) (pe_one (pe_not (pe_callB (q_isi (K := K) rfl) (by rfl) T.b_isinstance (by decide +kernel) (pa_cons (pv 0) (pa_cons (pe_bltn (v := .ty "bool") (by rfl) T.b_bool (by decide +kernel) rfl) pa_nil)))))))), ?_⟩
    exact num_rd rfl hd q
def spNumTo (K : PySem.W.Frag) : Sp := fun vs H Q _ => ∃ (v : V) (d : PyData) (m : Int), vs = [v, .int m] ∧ Rp K H v d ∧ Q (.bl (numTo m d)) H
theorem ok_is_number_to (F : FnAt K mg "is_number_to" s_is_number_to ["one", "most"] f cd) (C_is_number : CalE P w K mg base CX0 1 "is_number" (spIsNum K)) : CalE P w K mg base CX0 2 "is_number_to" (spNumTo K) := by
  refine F.cal sc_is_number_to (fun vs H Q E h => ?_) (fun A outer s H vs Q E hr h => ?_)
  · obtain ⟨v, d, m, rfl, _⟩ := h
    rfl
  · obtain ⟨v, d, m, rfl, hd, q⟩ := h
    refine ⟨_, (pss_one (ps_ret (pe_and (pe_cal C_is_number (hr.mono (by first | decide | omega)) (by rfl) (pa_cons (pv 0) pa_nil)) (pe_one (pe_chain op_le op_le pe_int (pv 0) (pv 1)))))), ?_⟩
    refine ⟨_, rfl, v, d, rfl, hd, _, rfl, ?_⟩
    cases hn : isNumD d with
    | false =>
      refine iteF ?_
      have : numTo m d = false := by cases d <;> first | rfl | cases hn
      exact this ▸ q
    | true =>
      obtain ⟨i, rfl⟩ := num_int hn
      cases hd
      refine iteT ?_
      refine ⟨_, rfl, _, _, rfl, rfl, _, rfl, ?_⟩
      have q' : Q (.bl (decide (0 ≤ i) && decide (i ≤ m))) H := q
      cases h0 : decide (0 ≤ i) with
      | false =>
        rw [h0, Bool.false_and] at q'
        exact iteF q'
      | true =>
        rw [h0, Bool.true_and] at q'
        refine iteT ?_
        exact ⟨_, rfl, _, _, rfl, rfl, q'⟩
/-- the items of a tuple, walked by all(..) -/
theorem all_tup {tb : List Addr} {N : List Str} {g : TG} {te : TE} {Q : VK} {H H2 : Hp} {a : Addr} {xs : List V} {ds : List PyData} (fb : PyData → Bool) (hT : Tabs tb H) (ha : SqT K H a xs) (hxs : RpAll K H xs ds) (e2 : Ext tb [] H H2)
    (hstep : ∀ (i : Nat) (H3 : Hp) (x : V) (d : PyData), Ext tb [] H H3 → ds[i]? = some d → Rp K H3 x d → ∀ R : VK, (∀ H4, Ext tb [] H3 H4 → R (.bl (fb d)) H4) → g x (GX.tau0 N) H3 fun τ2 H2 => te τ2 H2 R)
    (q : ∀ H3, Ext tb [] H H3 → Q (.bl (ds.all fb)) H3) :
    ∃ (len : Nat) (W : Nat → Hp → Prop), W 0 H2 ∧ ∀ i H, W i H → i ≤ len ∧ (((Itt K a).stop i H ∧ Q (.bl true) H) ∨ (i < len ∧ (Itt K a).go i H ∧ ∀ x H', (Itt K a).yld i H x H' → g x (GX.tau0 N) H' fun τ2 H2 => te τ2 H2 fun y H3 => ∃ b, y = .bl b ∧ if b = true then W (i + 1) H3 else Q (.bl false) H3)) := by
  have hl := RpAll_len hxs
  refine allG_by ds.length (trV fb ds) (fun H3 => Ext tb [] H H3) e2 (fun H3 ex => ⟨_, ex.sqT hT ha (by simp), by omega⟩) (fun i H3 hi ex => ⟨_, _, ex.sqT hT ha (by simp), List.getElem?_eq_getElem (by omega)⟩) ?_ ?_
  · rintro i H3 x H4 hi ex ⟨rfl, hy⟩ R hR
    have hx := hy _ (ex.sqT hT ha (by simp))
    obtain ⟨d, h1, h2⟩ := RpAll_get hxs hx
    refine hstep i H4 x d ex h1 (Rp_ext ex hT d h2) R fun H5 e5 => ?_
    have hR' := hR H5 (ex.trans e5)
    rw [trV_some h1] at hR'
    exact hR'
  · rintro H3 b ex rfl
    rw [all_trV]
    exact q H3 ex
def spIsLeaf (K : PySem.W.Frag) (tb : List Addr) : Sp := fun vs H Q _ => ∃ (v : V) (d : PyData), vs = [v] ∧ Rp K H v d ∧ Tabs tb H ∧ ∀ H', Ext tb [] H H' → Q (.bl (leafD d)) H'
theorem ok_is_leaf {c pt : Addr} {tb : List Addr} (T : Txt K mg) (TB : LamX.TabB base mg c pt) (hpt : pt ∈ tb) (F : FnAt K mg "is_leaf" s_is_leaf ["one"] f (.ref c)) (C_is_number_to : CalE P w K mg base CX0 2 "is_number_to" (spNumTo K)) : CalE P w K mg base CX0 4 "is_leaf" (spIsLeaf K tb) := by
  refine F.cal sc_is_leaf (fun vs H Q E h => ?_) (fun A outer s H vs Q E hr h => ?_)
  · obtain ⟨v, d, rfl, _⟩ := h
    rfl
  · obtain ⟨v, d, rfl, hd, hT, q⟩ := h
    refine ⟨_, (pss_one (ps_ret (pe_and (pe_callB (q_isi (K := K) rfl) (by rfl) T.b_isinstance (by decide +kernel) (pa_cons (pv 0) (pa_cons (pe_bltn (v := .ty "tuple") (by rfl) T.b_tuple (by decide +kernel) rfl) pa_nil))) (pe_and (pe_cmpR op_le (pe_callB (q_len (K := K) rfl) (by rfl) T.b_len PySem.boot_len (pa_cons (pv 0) pa_nil)) (pe_glo (by rfl) T.m_MOST_NUMBERS) (nomark _)) (pe_one (GX.pe_allG (N := ["part"]) hr (by rfl) T.b_all TB rfl ⟨rfl, rfl, by decide +kernel, by decide +kernel, by rfl⟩ (q_piT (K := K) rfl (pv 0)) (fun Xg hX => ⟨by obtain ⟨_, _, _, _, _, _, _, rfl⟩ := hX; exact (pg_name (i := 0) (show (["part"] : List Str).Nodup by decide) rfl (.inl rfl)), by have hrg := hX.room hr; obtain ⟨_, _, _, _, _, _, _, rfl⟩ := hX; exact (pe_cal C_is_number_to (hrg.mono (by first | decide | omega)) (by rfl) (pa_cons (pv 0) (pa_cons pe_int pa_nil)))⟩))))))), ?_⟩
    refine ⟨_, rfl, _, _, .type (tyN d), _, _, rfl, .ty _, Rp_ty hd, kit_ty (kit_tup d), _, rfl, ?_⟩
    cases et : isTup d with
    | false =>
      refine iteF ?_
      have : leafD d = false := by cases d <;> first | rfl | cases et
      exact this ▸ q H Ext.refl
    | true =>
    obtain ⟨ds, rfl⟩ : ∃ ds, d = .tuple ds := by cases d <;> first | exact ⟨_, rfl⟩ | cases et
    obtain ⟨a, xs, rfl, ha, hxs⟩ := Rp_tup hd
    have hlen := RpAll_len hxs
    refine iteT ?_
    refine ⟨_, rfl, _, _, rfl, .inr ⟨_, ha, rfl⟩, _, _, rfl, rfl, _, rfl, ?_⟩
    rw [hlen]
    have q : ∀ H', Ext tb [] H H' → Q (.bl (decide ((ds.length : Int) ≤ 8) && ds.all (numTo 255))) H' := q
    cases e6 : decide ((ds.length : Int) ≤ 8) with
    | false =>
      refine iteF ?_
      have := q H Ext.refl
      rw [e6, Bool.false_and] at this
      exact this
    | true =>
      refine iteT ?_
      refine ⟨_, rfl, a, rfl, ⟨_, ha⟩, hT pt hpt, fun H2 hH2 => ?_⟩
      refine all_tup (numTo 255) hT ha hxs (Ext.tabbed hH2 hpt) ?_ ?_
      · intro i H3 x d ex hdi hx R hR
        exact ⟨_, rfl, x, d, 255, rfl, hx, hR H3 Ext.refl⟩
      · intro H3 ex
        have := q H3 ex
        rw [e6, Bool.true_and] at this
        exact this

end
end K18

set_option Elab.async false
set_option linter.all false
set_option maxRecDepth 100000
set_option maxHeartbeats 1000000
namespace K18
open PySem PySem.Spec PyProof.Rows L2 HK DT
section
variable {P : Program} {w : World} {K : PySem.W.Frag} {mg : Str → Option Value} {base : Heap} {f : Addr} {cd : Value}
/-! ### codes of names -/
def sgn (k : Int) : Str := ⟨#[(letters.cps.toList[(k - 1).toNat]?).getD 0]⟩
def lets : Nat → Int → Option (List Str)
  | 0, _ => some []
  | f + 1, n => if n ≤ 0 then some [] else if n % 27 = 0 then none else (lets f (n / 27)).map (sgn (n % 27) :: ·)
def codeS : PyData → Option Str
  | .int n => if 0 < n ∧ n < 282429536481 then (lets 8 n).map (fun l => Txt.join "" l.reverse) else none
  | _ => none
theorem lets0 (f : Nat) {n : Int} (h : n ≤ 0) : lets f n = some [] := by
  cases f with
  | zero => rfl
  | succ f => show (if n ≤ 0 then some [] else _) = _; rw [if_pos h]
theorem sgn_at {k : Int} (h0 : 0 < k) (h1 : k < 27) : ∃ c, atI letters.cps.toList (k - 1) = some c ∧ sgn k = ⟨#[c]⟩ := by
  have hl : letters.cps.toList.length = 26 := by decide +kernel
  obtain ⟨j, hj⟩ : ∃ j : Nat, k - 1 = (j : Int) := ⟨(k - 1).toNat, by omega⟩
  have hk : j < letters.cps.toList.length := by omega
  refine ⟨letters.cps.toList[j], ?_, ?_⟩
  · rw [hj]
    exact atI_nat (List.getElem?_eq_getElem hk)
  · unfold sgn
    rw [hj, Int.toNat_natCast, List.getElem?_eq_getElem hk] <;> rfl
theorem sgn_len (k : Int) : (sgn k).length = 1 := rfl
theorem ones_sum : ∀ {ls : List Str}, (∀ l ∈ ls, l.length = 1) → (ls.map (·.length)).sum = ls.length
  | [], _ => rfl
  | l :: r, h => by
    rw [List.map_cons, List.sum_cons, h l (List.mem_cons_self ..), ones_sum fun x hx => h x (List.mem_cons_of_mem _ hx), List.length_cons]
    omega
def spNameOf (K : PySem.W.Frag) (tb : List Addr) (C : Addr) : Sp := fun vs H Q E => ∃ (v : V) (d : PyData), vs = [v] ∧ Rp K H v d ∧ Tabs tb H ∧ ∀ H', Ext tb [] H H' → match codeS d with
  | some s => Q (.str s) H'
  | none => E (.ref C) none H'
theorem ok_name_of {tb : List Addr} {C : Addr} (T : Txt K mg) (x_NoName : ExcI P K mg "NoName" C) (F : FnAt K mg "name_of" s_name_of ["code"] f cd) (C_is_number : CalE P w K mg base CX0 1 "is_number" (spIsNum K)) : CalE P w K mg base (L2.CX P w) 2 "name_of" (spNameOf K tb C) := by
  refine F.calX sc_name_of (fun vs H Q E h => ?_) (fun A outer s H vs Q E hr h => ?_)
  · obtain ⟨v, d, rfl, _⟩ := h
    rfl
  · obtain ⟨v, d, rfl, hd, hT, q⟩ := h
    refine ⟨_, (pss_cons (ps_if (PW.pt (pw_or (pt_not (pt_val (pe_cal C_is_number (hr.mono (by first | decide | omega)) (by rfl) (pa_cons (pv 0) pa_nil)))) (pw_or1 (pt_not (pt_chain op_lt op_lt pe_int (pv 0) (pe_op op_pow pe_int pe_int)))))) (pss_one (ps_raise rfl (takes_of rfl rfl rfl rfl) (pmk_ownI x_NoName hr (by rfl)))) pss_nil)
      (pss_cons (ps_set (i := 1) sc_name_of.nd rfl (.inl rfl) (pe_lst pa_nil))
      (pss_cons (ps_set (i := 2) sc_name_of.nd rfl (.inl rfl) (pv 0))
      (pss_cons (ps_while (passes_of rfl) (pt_cmpR op_gt (pv 2) pe_int (nomark _)) (pss_cons (ps_asg (pe_callB call_divmod (by rfl) T.b_divmod (by decide +kernel) (pa_cons (pv 2) (pa_cons pe_int pa_nil))) (RJ.q_pgT (K := K) (n := 2) rfl rfl (pgs_cons (pg_name (i := 2) sc_name_of.nd rfl (.inl rfl)) (pgs_cons (pg_name (i := 3) sc_name_of.nd rfl (.inl rfl)) pgs_nil))))
      (pss_cons (ps_if (pt_cmpR op_eq (pv 3) pe_int (nomark _)) (pss_one (ps_raise rfl (takes_of rfl rfl rfl rfl) (pmk_ownI x_NoName hr (by rfl)))) pss_nil)
      (pss_one (ps_expr (q_bm (K := K) rfl PySem.F.plainAttrs_list PySem.F.slot_list_append PySem.F.type_list_append mt_append (pv 1) (pa_cons (pe_ix ix_str (pe_glo (by rfl) T.m_LETTERS) (pe_op op_sub (pv 3) pe_int) (fun _ _ => rfl)) pa_nil)))))))
      (pss_one (ps_ret (RJ.q_joinRev (K := K) rfl rfl pe_str (by rfl) T.b_reversed (pv 1)))))))), ?_⟩
    refine ⟨_, rfl, v, d, rfl, hd, _, rfl, ?_⟩
    cases hn : isNumD d with
    | false =>
      refine iteT ?_
      refine iteT ?_
      have : codeS d = none := by cases d <;> first | rfl | cases hn
      have q0 := q H Ext.refl
      rw [this] at q0
      exact q0
    | true =>
    obtain ⟨code, rfl⟩ := num_int hn
    cases hd
    refine iteF ?_
    refine ⟨_, rfl, _, _, rfl, rfl, _, rfl, ?_⟩
    by_cases hrg : 0 < code ∧ code < 282429536481
    · rw [decide_eq_true hrg.1]
      refine iteT ?_
      refine ⟨_, _, rfl, rfl, ⟨by decide, by decide, by decide⟩, _, _, rfl, rfl, _, rfl, ?_⟩
      have e8 : decide (code < 27 ^ (8:Int).toNat) = true := decide_eq_true (show code < 282429536481 from hrg.2)
      rw [e8]
      refine iteF ?_
      refine ⟨Nat.zero_le _, fun L nL => ?_⟩
      refine ⟨_, rfl, ?_⟩
      have e0 : Ext tb [] H (upd H L (.lst (([] : List Str).map V.str))) := Ext.new hT nL
      refine ⟨fun m σ H2 => ∃ (ls : List Str) (n : Int) (y3 : Option V), σ = [some (.int code), some (.ref L), some (.int n), y3] ∧ 0 ≤ n ∧ n < 27 ^ m ∧ ls.length + m = 8 ∧ (∀ l ∈ ls, l.length = 1) ∧ Ext tb [] H H2 ∧ H2 L = some (.lst (ls.map V.str)) ∧ lets 8 code = (lets m n).map (ls ++ ·), ⟨8, [], code, _, rfl, by omega, hrg.2, rfl, (fun l hl => by cases hl), e0, upd_same, ?_⟩, ?_⟩
      · cases lets 8 code <;> rfl
      · rintro m σ H2 ⟨ls, n, y3, rfl, hn0, hnm, hlm, hls, e2, hL2, hlet⟩
        have hT2 := e2.tabs hT
        refine ⟨_, rfl, _, _, rfl, rfl, _, rfl, ?_⟩
        by_cases hpos : 0 < n
        · rw [decide_eq_true hpos]
          refine iteT ?_
          obtain ⟨m', rfl⟩ : ∃ m', m = m' + 1 := by
            cases m with
            | zero => exact absurd (show n < 1 from hnm) (by omega)
            | succ m' => exact ⟨m', rfl⟩
          have hstep : lets (m' + 1) n = if n % 27 = 0 then none else (lets m' (n / 27)).map (sgn (n % 27) :: ·) := by
            show (if n ≤ 0 then some [] else _) = _
            rw [if_neg (by omega)]
          have b27 := Int.emod_nonneg n (b := 27) (by decide)
          have c27 := Int.emod_lt_of_pos n (b := 27) (by decide)
          refine ⟨fun σ' H' => ∃ (ls : List Str) (n : Int) (y3 : Option V), σ' = [some (.int code), some (.ref L), some (.int n), y3] ∧ 0 ≤ n ∧ n < 27 ^ m' ∧ ls.length + m' = 8 ∧ (∀ l ∈ ls, l.length = 1) ∧ Ext tb [] H H' ∧ H' L = some (.lst (ls.map V.str)) ∧ lets 8 code = (lets m' n).map (ls ++ ·), fun σ' H' h => ⟨m', Nat.lt_succ_self _, h⟩, ?_⟩
          refine ⟨_, rfl, _, _, rfl, ⟨by decide, by decide⟩, fun p np => ?_⟩
          have e3 : Ext tb [] H2 (upd H2 p (.tup [.int (n / 27), .int (n % 27)])) := Ext.new hT2 np
          have e03 := e2.trans e3
          have hL3 := e3.lst hT2 hL2 (by simp)
          refine ⟨p, _, rfl, SqT.of upd_same, rfl, ?_⟩
          refine ⟨_, _, rfl, _, _, rfl, rfl, ?_⟩
          refine ⟨_, rfl, rfl, _, rfl, ?_⟩
          by_cases hz : n % 27 = 0
          · rw [decide_eq_true (show V.int (n % 27) = V.int 0 by rw [hz] <;> rfl)]
            refine iteT ?_
            have hnone : codeS (.int code) = none := by
              show (if 0 < code ∧ code < 282429536481 then (lets 8 code).map _ else none) = none
              rw [if_pos hrg, hlet, hstep, if_pos hz] <;> rfl
            have q0 := q _ e03
            rw [hnone] at q0
            exact q0
          · rw [decide_eq_false (show ¬ V.int (n % 27) = V.int 0 from fun z => hz (V.int.inj z))]
            refine iteF ?_
            obtain ⟨c, hc, hsg⟩ := sgn_at (k := n % 27) (by omega) c27
            refine ⟨_, rfl, .inl ⟨rfl, _, SqL.of hL3⟩, _, rfl, _, _, rfl, rfl, letters, _, c, rfl, rfl, (by decide +kernel), hc, L, _, _, rfl, rfl, hL3, line_lt (by rw [List.length_map]; omega), ?_⟩
            refine ⟨ls ++ [sgn (n % 27)], n / 27, _, rfl, Int.ediv_nonneg hn0 (by decide), Int.ediv_lt_of_lt_mul (by decide) (by rw [Int.pow_succ] at hnm; exact hnm), by rw [List.length_append]; show ls.length + 1 + m' = 8; omega, fun l hl => ?_, Ext.own hT e03 nL, ?_, ?_⟩
            · rcases List.mem_append.mp hl with hl | hl
              · exact hls l hl
              · rw [List.mem_singleton.mp hl]
                exact sgn_len _
            · rw [upd_same, List.map_append, hsg] <;> rfl
            · rw [hlet, hstep, if_neg hz]
              cases lets m' (n / 27) with
              | none => rfl
              | some r =>
                show some (ls ++ (sgn (n % 27) :: r)) = some ((ls ++ [sgn (n % 27)]) ++ r)
                rw [List.append_assoc] <;> rfl
        · rw [decide_eq_false hpos]
          refine iteF ?_
          have hsome : codeS (.int code) = some (Txt.join "" ls.reverse) := by
            show (if 0 < code ∧ code < 282429536481 then (lets 8 code).map _ else none) = _
            rw [if_pos hrg, hlet, lets0 m (by omega)]
            show some (Txt.join "" (ls ++ []).reverse) = _
            rw [List.append_nil]
          refine ⟨⟨_, rfl⟩, _, rfl, _, L, ls, rfl, rfl, SqL.of hL2, ?_, ?_⟩
          · rw [ones_sum hls]
            show ls.length + ls.length * 0 ≤ 16777216
            omega
          · have q0 := q H2 e2
            rw [hsome] at q0
            exact q0
    · have hnone : codeS (.int code) = none := by
        show (if 0 < code ∧ code < 282429536481 then (lets 8 code).map _ else none) = none
        rw [if_neg hrg]
      have q0 := q H Ext.refl
      rw [hnone] at q0
      by_cases hp : 0 < code
      · rw [decide_eq_true hp]
        refine iteT ?_
        refine ⟨_, _, rfl, rfl, ⟨by decide, by decide, by decide⟩, _, _, rfl, rfl, _, rfl, ?_⟩
        have e8 : decide (code < 27 ^ (8:Int).toNat) = false := decide_eq_false (show ¬ code < 282429536481 from fun z => hrg ⟨hp, z⟩)
        rw [e8]
        exact iteT q0
      · rw [decide_eq_false hp]
        refine iteF ?_
        exact ⟨_, rfl, iteT q0⟩
def spIsCode (K : PySem.W.Frag) (tb : List Addr) : Sp := fun vs H Q _ => ∃ (v : V) (d : PyData), vs = [v] ∧ Rp K H v d ∧ Tabs tb H ∧ ∀ H', Ext tb [] H H' → Q (.bl (codeS d).isSome) H'
theorem ok_is_code {tb : List Addr} {C : Addr} (x_NoName : ExcI P K mg "NoName" C) (F : FnAt K mg "is_code" s_is_code ["number"] f cd) (C_name_of : CalE P w K mg base (L2.CX P w) 2 "name_of" (spNameOf K tb C)) : CalE P w K mg base CX0 3 "is_code" (spIsCode K tb) := by
  refine F.cal sc_is_code (fun vs H Q E h => ?_) (fun A outer s H vs Q E hr h => ?_)
  · obtain ⟨v, d, rfl, _⟩ := h
    rfl
  · obtain ⟨v, d, rfl, hd, hT, q⟩ := h
    refine ⟨_, (pss_cons (ps_try_only rfl rfl ⟨rfl, by decide, .inl x_NoName.m⟩ takes0 (fun W pn xe tk _ => (pss_one (ps_expr (pe_calS C_name_of (hr.mono (by first | decide | omega)) (by rfl) tk (pa_cons (pv 0) pa_nil))))) (fun a oe cls d pn _ _ => (pss_one (ps_ret pe_bl))))
      (pss_one (ps_ret pe_bl))), ?_⟩
    refine ⟨_, rfl, v, d, rfl, hd, hT, fun H' ex => ?_⟩
    cases hc : codeS d with
    | some s =>
      have q0 := q H' ex
      rw [hc] at q0
      exact q0
    | none =>
      have q0 := q H' ex
      rw [hc] at q0
      exact ⟨true, x_NoName.ex, fun _ a ha => q0, fun z => nomatch z⟩

end
end K18

set_option Elab.async false
set_option linter.all false
set_option maxRecDepth 100000
set_option maxHeartbeats 1000000
namespace K18
open PySem PySem.Spec PyProof.Rows L2 HK DT
section
variable {P : Program} {w : World} {K : PySem.W.Frag} {mg : Str → Option Value} {base : Heap} {f : Addr} {cd : Value}
/-! ### blocks: kinds, links, heights -/
def kindN (k : Int) : Str := (kinds[k.toNat]?).getD ""
def KindsE (K : PySem.W.Frag) (mg : Str → Option Value) (aK : Addr) : Prop := GloE mg "KINDS" (.ref aK) ∧ ∀ H, SqT K H aK (kinds.map V.str)
/-- a content with a kind -/
structure Cnt (K : PySem.W.Frag) (H : Hp) (a : Addr) (k : Int) (r : List Int) : Prop where
  sq : SqT K H a ((k :: r).map V.int)
  lo : 0 ≤ k
  hi : k < 4
theorem Cnt.ext {tb : List Addr} {H H' : Hp} {a : Addr} {k : Int} {r : List Int} (c : Cnt K H a k r) (e : Ext tb [] H H') (t : Tabs tb H) : Cnt K H' a k r := ⟨e.sqT t c.sq (by simp), c.lo, c.hi⟩
def spKind (K : PySem.W.Frag) : Sp := fun vs H Q _ => ∃ (a : Addr) (k : Int) (r : List Int), vs = [.ref a] ∧ Cnt K H a k r ∧ Q (.str (kindN k)) H
theorem ok_kind_of {aK : Addr} (hK : KindsE K mg aK) (F : FnAt K mg "kind_of" s_kind_of ["content"] f cd) : CalE P w K mg base CX0 1 "kind_of" (spKind K) := by
  refine F.cal sc_kind_of (fun vs H Q E h => ?_) (fun A outer s H vs Q E hr h => ?_)
  · obtain ⟨a, k, r, rfl, _⟩ := h
    rfl
  · obtain ⟨a, k, r, rfl, c, q⟩ := h
    refine ⟨_, (pss_one (ps_ret (pe_ix (q_ixT (K := K) rfl) (pe_glo (by rfl) hK.1) (pe_ix (q_ixT (K := K) rfl) (pv 0) pe_int (fun _ _ => rfl)) (fun _ _ => rfl)))), ?_⟩
    have hk : k.toNat < kinds.length := by
      have := c.hi
      show k.toNat < 4
      omega
    have hkk : kindN k = kinds[k.toNat] := by
      unfold kindN
      rw [List.getElem?_eq_getElem hk] <;> rfl
    refine ⟨_, rfl, a, _, _, .int k, rfl, rfl, c.sq, atI_nat (j := 0) rfl, aK, _, _, .str kinds[k.toNat], rfl, rfl, hK.2 H, ?_, ?_⟩
    · exact at_of (j := k.toNat) (by have := c.lo; omega) (by rw [List.getElem?_map, List.getElem?_eq_getElem hk] <;> rfl)
    · exact hkk ▸ q
def heightN (n : Int) : Int := if n ≤ 4 then 1 else if n ≤ 16 then 2 else 3
def upN : Nat → Int → Int
  | 0, n => n
  | i + 1, n => (upN i n + 4 - 1) / 4
def placesN (n : Int) : Int := upN (heightN n - 1).toNat n
theorem height_rg (n : Int) : 1 ≤ heightN n ∧ heightN n ≤ 3 := by
  unfold heightN
  split
  · omega
  · split <;> omega
def spHeight : Sp := fun vs H Q _ => ∃ n : Int, vs = [.int n] ∧ n ≤ 64 ∧ Q (.int (heightN n)) H
theorem ok_height_of (T : Txt K mg) (F : FnAt K mg "height_of" s_height_of ["many"] f cd) : CalE P w K mg base CX0 1 "height_of" spHeight := by
  refine F.cal sc_height_of (fun vs H Q E h => ?_) (fun A outer s H vs Q E hr h => ?_)
  · obtain ⟨n, rfl, _⟩ := h
    rfl
  · obtain ⟨n, rfl, hn, q⟩ := h
    refine ⟨_, (pss_cons (ps_set (i := 1) sc_height_of.nd rfl (.inl rfl) pe_int)
      (pss_cons (ps_set (i := 2) sc_height_of.nd rfl (.inl rfl) (pe_glo (by rfl) T.m_BUNDLE))
      (pss_cons (ps_while PassesOwn.never (pt_cmpR op_lt (pv 2) (pv 0) (nomark _)) (pss_cons (ps_aug (i := 1) sc_height_of.nd rfl (.inl rfl) pe_int ip_add)
      (pss_one (ps_aug (i := 2) sc_height_of.nd rfl (.inl rfl) (pe_glo (by rfl) T.m_BUNDLE) RJ.ip_mul))))
      (pss_one (ps_ret (pv 1)))))), ?_⟩
    refine ⟨fun m σ H2 => H2 = H ∧ ((m = 2 ∧ σ = [some (.int n), some (.int 1), some (.int 4)]) ∨ (m = 1 ∧ 4 < n ∧ σ = [some (.int n), some (.int 2), some (.int 16)]) ∨ (m = 0 ∧ 16 < n ∧ σ = [some (.int n), some (.int 3), some (.int 64)])), ⟨2, rfl, .inl ⟨rfl, rfl⟩⟩, ?_⟩
    rintro m σ H2 ⟨rfl, h⟩
    have hq : ∀ k : Int, heightN n = k → Q (.int k) H2 := fun k e => e ▸ q
    rcases h with ⟨rfl, rfl⟩ | ⟨rfl, h4, rfl⟩ | ⟨rfl, h16, rfl⟩
    · refine ⟨_, rfl, _, rfl, _, _, rfl, rfl, _, rfl, ?_⟩
      by_cases h : (4:Int) < n
      · rw [decide_eq_true h]
        refine iteT ⟨fun σ' H' => H' = H2 ∧ σ' = [some (.int n), some (.int 2), some (.int 16)], ?_, ?_⟩
        · rintro σ' H' ⟨rfl, rfl⟩
          exact ⟨1, by decide, rfl, .inr (.inl ⟨rfl, h, rfl⟩)⟩
        · exact ⟨_, rfl, _, _, rfl, rfl, _, rfl, _, _, rfl, rfl, .inl ⟨by decide, by decide⟩, rfl, rfl⟩
      · rw [decide_eq_false h]
        refine iteF ?_
        exact ⟨_, rfl, hq 1 (by unfold heightN; rw [if_pos (by omega)])⟩
    · refine ⟨_, rfl, _, rfl, _, _, rfl, rfl, _, rfl, ?_⟩
      by_cases h : (16:Int) < n
      · rw [decide_eq_true h]
        refine iteT ⟨fun σ' H' => H' = H2 ∧ σ' = [some (.int n), some (.int 3), some (.int 64)], ?_, ?_⟩
        · rintro σ' H' ⟨rfl, rfl⟩
          exact ⟨0, by decide, rfl, .inr (.inr ⟨rfl, h, rfl⟩)⟩
        · exact ⟨_, rfl, _, _, rfl, rfl, _, rfl, _, _, rfl, rfl, .inl ⟨by decide, by decide⟩, rfl, rfl⟩
      · rw [decide_eq_false h]
        refine iteF ?_
        exact ⟨_, rfl, hq 2 (by unfold heightN; rw [if_neg (by omega), if_pos (by omega)])⟩
    · refine ⟨_, rfl, _, rfl, _, _, rfl, rfl, _, rfl, ?_⟩
      rw [decide_eq_false (show ¬ (64:Int) < n by omega)]
      refine iteF ?_
      exact ⟨_, rfl, hq 3 (by unfold heightN; rw [if_neg (by omega), if_neg (by omega)])⟩
def spSizes (tb : List Addr) : Sp := fun vs H Q _ => ∃ n : Int, vs = [.int n] ∧ n ≤ 64 ∧ Tabs tb H ∧ ∀ p H' (xs : List Int), Ext tb [] H H' → H' p = some (.lst (xs.map V.int ++ [.int (placesN n)])) → Q (.ref p) H'
theorem ok_level_sizes {tb : List Addr} (T : Txt K mg) (F : FnAt K mg "level_sizes" s_level_sizes ["many"] f cd) (C_height_of : CalE P w K mg base CX0 1 "height_of" spHeight) : CalE P w K mg base CX0 2 "level_sizes" (spSizes tb) := by
  refine F.cal sc_level_sizes (fun vs H Q E h => ?_) (fun A outer s H vs Q E hr h => ?_)
  · obtain ⟨n, rfl, _⟩ := h
    rfl
  · obtain ⟨n, rfl, hn, hT, q⟩ := h
    refine ⟨_, (pss_cons (ps_set (i := 1) sc_level_sizes.nd rfl (.inl rfl) (pe_lst (pa_cons (pv 0) pa_nil)))
      (pss_cons (ps_for PassesOwn.never rfl (pi_range1 (by rfl) T.b_range (pa_cons (pe_op op_sub (pe_cal C_height_of (hr.mono (by first | decide | omega)) (by rfl) (pa_cons (pv 0) pa_nil)) pe_int) pa_nil)) (pg_name (i := 2) sc_level_sizes.nd rfl (.inl rfl)) (pss_one (ps_expr (q_bm (K := K) rfl PySem.F.plainAttrs_list PySem.F.slot_list_append PySem.F.type_list_append mt_append (pv 1) (pa_cons (pe_op op_fdiv (pe_op op_sub (pe_op op_add (pe_ix (q_ixL (K := K) rfl) (pv 1) (pe_un un_neg pe_int) (fun _ _ => rfl)) (pe_glo (by rfl) T.m_BUNDLE)) pe_int) (pe_glo (by rfl) T.m_BUNDLE)) pa_nil)))))
      (pss_one (ps_ret (pv 1))))), ?_⟩
    have hh := height_rg n
    refine ⟨_, rfl, by show 1 ≤ sizeLine; decide, fun p np => ?_⟩
    refine ⟨_, rfl, n, rfl, hn, _, _, rfl, rfl, _, rfl, by omega, by omega, for_range (lo := 0) (n := (heightN n - 1).toNat) (fun i σ H2 => ∃ (xs : List Int) (y2 : Option V), σ = [some (.int n), some (.ref p), y2] ∧ Ext tb [] H H2 ∧ xs.length = i ∧ H2 p = some (.lst (xs.map V.int ++ [.int (upN i n)]))) ⟨[], none, rfl, Ext.new hT np, rfl, upd_same⟩ ?_ ?_⟩
    · rintro i σ H2 hi ⟨xs, y2, rfl, ex, hl, hp⟩
      refine ⟨_, rfl, .inl ⟨rfl, _, SqL.of hp⟩, _, rfl, 1, rfl, p, _, -1, .int (upN i n), rfl, rfl, SqL.of hp, atI_last _ _, _, _, rfl, rfl, _, _, rfl, rfl, _, _, rfl, rfl, ⟨by decide, by decide⟩, p, _, _, rfl, rfl, hp, ?_, ?_⟩
      · refine line_lt ?_
        rw [List.length_append, List.length_map, hl]
        show i + 1 ≤ _
        omega
      · refine ⟨xs ++ [upN i n], _, rfl, Ext.own hT ex np, by rw [List.length_append, hl] <;> rfl, ?_⟩
        rw [upd_same, map_snoc]
        rfl
    · rintro σ H2 ⟨xs, y2, rfl, ex, hl, hp⟩
      exact ⟨_, rfl, q _ _ xs ex hp⟩
/-- every second one -/
def alt {α : Type} : List α → List α
  | [] => []
  | [x] => [x]
  | x :: _ :: r => x :: alt r
theorem alt_eq {α : Type} : ∀ ys : List α, (List.range ((ys.length + 1) / 2)).filterMap (fun m => ys[2 * m]?) = alt ys
  | [] => by simp [alt]
  | [x] => by simp [alt, List.range_succ]
  | x :: y :: r => by
    have e : ((x :: y :: r).length + 1) / 2 = (r.length + 1) / 2 + 1 := by simp only [List.length_cons]; omega
    rw [e, List.range_succ_eq_map, List.filterMap_cons, List.filterMap_map]
    show x :: List.filterMap _ _ = x :: alt r
    rw [← alt_eq r]
    congr 1
theorem alt_len {α : Type} : ∀ ys : List α, (alt ys).length = (ys.length + 1) / 2
  | [] => by simp [alt]
  | [x] => by simp [alt]
  | x :: y :: r => by
    show (alt r).length + 1 = _
    rw [alt_len r]
    simp only [List.length_cons]
    omega
theorem pick2 {α : Type} (xs : List α) (k : Nat) : SL.pick xs (some (k : Int)) none 2 = alt (xs.drop k) := by
  rw [← alt_eq]
  unfold SL.pick
  have h1 : (Builtin.Slice.sliceAdjust (some (k : Int)) none 2 (xs.length : Int)).1 = ((min k xs.length : Nat) : Int) := by
    show (if (k : Int) < 0 then max ((k : Int) + (xs.length : Int)) (if (2:Int) < 0 then -1 else 0) else min (k : Int) (if (2:Int) < 0 then (xs.length : Int) - 1 else (xs.length : Int))) = _
    rw [if_neg (show ¬ (k : Int) < 0 by omega), if_neg (show ¬ (2:Int) < 0 by decide)]
    omega
  have h2 : (Builtin.Slice.sliceAdjust (some (k : Int)) none 2 (xs.length : Int)).2 = (xs.length : Int) := rfl
  rw [h1, h2]
  have h3 : Builtin.Slice.slicePlaces ((min k xs.length : Nat) : Int) (xs.length : Int) 2 = ((xs.drop k).length + 1) / 2 := by
    unfold Builtin.Slice.slicePlaces
    rw [if_pos (show (2:Int) > 0 by decide), List.length_drop]
    split <;> omega
  rw [h3]
  have e : ∀ m ∈ List.range (((xs.drop k).length + 1) / 2), xs[(((min k xs.length : Nat) : Int) + (m : Int) * 2).toNat]? = (xs.drop k)[2 * m]? := fun m hm => by
    have hm := List.mem_range.mp hm
    rw [List.length_drop] at hm
    rw [List.getElem?_drop]
    congr 1
    omega
  generalize List.range (((xs.drop k).length + 1) / 2) = l at e
  induction l with
  | nil => rfl
  | cons a l ih =>
    rw [List.filterMap_cons, List.filterMap_cons, e a (List.mem_cons_self ..), ih fun m hm => e m (List.mem_cons_of_mem _ hm)]
def linksN (k : Int) (r : List Int) : List Int := if k = 0 then [] else if k = 1 then r else if k = 2 then r.drop 1 else alt (r.drop 1)
theorem pick_map {α β : Type} (f : α → β) (xs : List α) (lo hi : Option Int) (st : Int) : SL.pick (xs.map f) lo hi st = (SL.pick xs lo hi st).map f := by
  unfold SL.pick
  rw [List.map_filterMap, List.length_map]
  congr 1
  funext m
  rw [List.getElem?_map]
def spLinks (K : PySem.W.Frag) (tb : List Addr) : Sp := fun vs H Q _ => ∃ (a : Addr) (k : Int) (r : List Int), vs = [.ref a] ∧ Cnt K H a k r ∧ r.length ≤ 1000 ∧ Tabs tb H ∧ ∀ p H', Ext tb [] H H' → SqT K H' p ((linksN k r).map V.int) → Q (.ref p) H'
theorem kind_eq {k : Int} (h0 : 0 ≤ k) (h4 : k < 4) : (V.str (kindN k) = V.str "leaf" ↔ k = 0) ∧ (V.str (kindN k) = V.str "branch" ↔ k = 1) ∧ (V.str (kindN k) = V.str "file" ↔ k = 2) := by
  have : k = 0 ∨ k = 1 ∨ k = 2 ∨ k = 3 := by omega
  rcases this with rfl | rfl | rfl | rfl <;> exact ⟨by decide +kernel, by decide +kernel, by decide +kernel⟩
theorem ok_links {tb : List Addr} (T : Txt K mg) (F : FnAt K mg "links" s_links ["content"] f cd) (C_kind_of : CalE P w K mg base CX0 1 "kind_of" (spKind K)) : CalE P w K mg base CX0 2 "links" (spLinks K tb) := by
  refine F.cal sc_links (fun vs H Q E h => ?_) (fun A outer s H vs Q E hr h => ?_)
  · obtain ⟨a, k, r, rfl, _⟩ := h
    rfl
  · obtain ⟨a, k, r, rfl, c, hl, hT, q⟩ := h
    refine ⟨_, (pss_cons (ps_set (i := 1) sc_links.nd rfl (.inl rfl) (pe_cal C_kind_of (hr.mono (by first | decide | omega)) (by rfl) (pa_cons (pv 0) pa_nil)))
      (pss_cons (ps_if (pt_cmpR op_eq (pv 1) pe_str (nomark _)) (pss_one (ps_ret (pe_tup pa_nil))) pss_nil)
      (pss_cons (ps_if (pt_cmpR op_eq (pv 1) pe_str (nomark _)) (pss_one (ps_ret (pe_slice (q_slT (K := K) rfl) (pv 0) (po_some pe_int) po_none))) pss_nil)
      (pss_cons (ps_if (pt_cmpR op_eq (pv 1) pe_str (nomark _)) (pss_one (ps_ret (pe_slice (q_slT (K := K) rfl) (pv 0) (po_some pe_int) po_none))) pss_nil)
      (pss_one (ps_ret (SL.pe_step (K := K) rfl (pv 0) (po_some pe_int) po_none (po_some pe_int)))))))), ?_⟩
    unfold tNoPart
    obtain ⟨k0, k1, k2⟩ := kind_eq c.lo c.hi
    refine ⟨_, rfl, a, k, r, rfl, c, _, rfl, rfl, _, rfl, ?_⟩
    by_cases z0 : k = 0
    · rw [decide_eq_true (k0.mpr z0)]
      refine iteT ⟨Nat.zero_le _, fun p np => ?_⟩
      refine q p _ (Ext.new hT np) ?_
      unfold linksN
      rw [if_pos z0]
      exact SqT.of upd_same
    rw [decide_eq_false (fun z => z0 (k0.mp z))]
    refine iteF ?_
    refine ⟨_, rfl, rfl, _, rfl, ?_⟩
    by_cases z1 : k = 1
    · rw [decide_eq_true (k1.mpr z1)]
      refine iteT ?_
      refine ⟨_, rfl, _, rfl, ?_⟩
      refine cut_rd hT c.sq fun p H' e h => q p H' e ?_
      unfold linksN
      rw [if_neg z0, if_pos z1]
      rw [show (some (1:Int)) = some ((1:Nat):Int) from rfl, cut_from] at h
      exact h
    rw [decide_eq_false (fun z => z1 (k1.mp z))]
    refine iteF ?_
    refine ⟨_, rfl, rfl, _, rfl, ?_⟩
    by_cases z2 : k = 2
    · rw [decide_eq_true (k2.mpr z2)]
      refine iteT ?_
      refine ⟨_, rfl, _, rfl, ?_⟩
      refine cut_rd hT c.sq fun p H' e h => q p H' e ?_
      unfold linksN
      rw [if_neg z0, if_neg z1, if_pos z2]
      rw [show (some (2:Int)) = some ((2:Nat):Int) from rfl, cut_from] at h
      exact h
    rw [decide_eq_false (fun z => z2 (k2.mp z))]
    refine iteF ?_
    refine ⟨_, rfl, _, rfl, _, rfl, a, _, _, rfl, rfl, by decide, by decide, c.sq, ?_, fun p np => ?_⟩
    · rw [show (some (2:Int)) = some ((2:Nat):Int) from rfl, pick2, alt_len]
      refine line_of ?_
      rw [List.length_drop, List.length_map, List.length_cons]
      omega
    · refine q p _ (Ext.new hT np) ?_
      unfold linksN
      rw [if_neg z0, if_neg z1, if_neg z2]
      rw [show (some (2:Int)) = some ((2:Nat):Int) from rfl, pick_map, pick2]
      exact SqT.of upd_same

end
end K18

set_option Elab.async false
set_option linter.all false
set_option maxRecDepth 100000
set_option maxHeartbeats 1000000
namespace K18
open PySem PySem.Spec PyProof.Rows L2 HK DT
section
variable {P : Program} {w : World} {K : PySem.W.Frag} {mg : Str → Option Value} {base : Heap} {f : Addr} {cd : Value}
/-! ### contents and blocks, of any data -/
def nnD : PyData → Bool
  | .int i => decide (i ≥ 0)
  | _ => false
def contD : PyData → Bool
  | .tuple ds => ds.all nnD
  | _ => false
def spIsContent (K : PySem.W.Frag) (tb : List Addr) : Sp := fun vs H Q _ => ∃ (v : V) (d : PyData), vs = [v] ∧ Rp K H v d ∧ Tabs tb H ∧ ∀ H', Ext tb [] H H' → Q (.bl (contD d)) H'
theorem ok_is_content {c pt : Addr} {tb : List Addr} (T : Txt K mg) (TB : LamX.TabB base mg c pt) (hpt : pt ∈ tb) (F : FnAt K mg "is_content" s_is_content ["one"] f (.ref c)) (C_is_number : CalE P w K mg base CX0 1 "is_number" (spIsNum K)) : CalE P w K mg base CX0 3 "is_content" (spIsContent K tb) := by
  refine F.cal sc_is_content (fun vs H Q E h => ?_) (fun A outer s H vs Q E hr h => ?_)
  · obtain ⟨v, d, rfl, _⟩ := h
    rfl
  · obtain ⟨v, d, rfl, hd, hT, q⟩ := h
    refine ⟨_, (pss_one (ps_ret (pe_and (pe_callB (q_isi (K := K) rfl) (by rfl) T.b_isinstance (by decide +kernel) (pa_cons (pv 0) (pa_cons (pe_bltn (v := .ty "tuple") (by rfl) T.b_tuple (by decide +kernel) rfl) pa_nil))) (pe_one (GX.pe_allG (N := ["number"]) hr (by rfl) T.b_all TB rfl ⟨rfl, rfl, by decide +kernel, by decide +kernel, by rfl⟩ (q_piT (K := K) rfl (pv 0)) (fun Xg hX => ⟨by obtain ⟨_, _, _, _, _, _, _, rfl⟩ := hX; exact (pg_name (i := 0) (show (["number"] : List Str).Nodup by decide) rfl (.inl rfl)), by have hrg := hX.room hr; obtain ⟨_, _, _, _, _, _, _, rfl⟩ := hX; exact (pe_and (pe_cal C_is_number (hrg.mono (by first | decide | omega)) (by rfl) (pa_cons (pv 0) pa_nil)) (pe_one (pe_cmpR op_ge (pv 0) pe_int (nomark _))))⟩)))))), ?_⟩
    refine ⟨_, rfl, _, _, .type (tyN d), _, _, rfl, .ty _, Rp_ty hd, kit_ty (kit_tup d), _, rfl, ?_⟩
    cases et : isTup d with
    | false =>
      refine iteF ?_
      have : contD d = false := by cases d <;> first | rfl | cases et
      exact this ▸ q H Ext.refl
    | true =>
    obtain ⟨ds, rfl⟩ : ∃ ds, d = .tuple ds := by cases d <;> first | exact ⟨_, rfl⟩ | cases et
    obtain ⟨a, xs, rfl, ha, hxs⟩ := Rp_tup hd
    refine iteT ?_
    refine ⟨_, rfl, a, rfl, ⟨_, ha⟩, hT pt hpt, fun H2 hH2 => ?_⟩
    refine all_tup nnD hT ha hxs (Ext.tabbed hH2 hpt) ?_ q
    intro i H3 x d ex hdi hx R hR
    refine ⟨_, rfl, x, d, rfl, hx, _, rfl, ?_⟩
    have hR0 := hR H3 Ext.refl
    cases hn : isNumD d with
    | false =>
      have : nnD d = false := by cases d <;> first | rfl | cases hn
      rw [this] at hR0
      exact iteF hR0
    | true =>
      obtain ⟨i, rfl⟩ := num_int hn
      cases hx
      exact iteT ⟨_, rfl, _, _, rfl, rfl, hR0⟩
/-- a content is a row of numbers -/
theorem cont_ints {H : Hp} : ∀ {xs : List V} {ds : List PyData}, RpAll K H xs ds → ds.all nnD = true → ∃ ns : List Int, ds = ns.map PyData.int ∧ xs = ns.map V.int ∧ ∀ n ∈ ns, 0 ≤ n
  | _, _, .nil, _ => ⟨[], rfl, rfl, fun n hn => by cases hn⟩
  | _, d :: ds, .cons h t, e => by
    rw [List.all_cons, Bool.and_eq_true] at e
    obtain ⟨ns, e1, e2, e3⟩ := cont_ints t e.2
    cases d with
    | int i =>
      cases h
      refine ⟨i :: ns, by rw [e1] <;> rfl, by rw [e2] <;> rfl, fun n hn => ?_⟩
      rcases List.mem_cons.mp hn with rfl | hn
      · exact of_decide_eq_true e.1
      · exact e3 n hn
    | _ => exact absurd e.1 Bool.false_ne_true
def fileN : Int → List Int → Bool
  | _, [] => false
  | k, n :: r => decide (n ≤ 64) && decide ((((linksN k (n :: r)).length : Nat) : Int) = placesN n)
def spIsFile (K : PySem.W.Frag) (tb : List Addr) : Sp := fun vs H Q _ => ∃ (a : Addr) (k : Int) (r : List Int), vs = [.ref a] ∧ Cnt K H a k r ∧ r.length ≤ 1000 ∧ Tabs tb H ∧ ∀ H', Ext tb [] H H' → Q (.bl (fileN k r)) H'
theorem ok_is_file {tb : List Addr} (T : Txt K mg) (F : FnAt K mg "is_file" s_is_file ["content"] f cd) (C_links : CalE P w K mg base CX0 2 "links" (spLinks K tb)) (C_level_sizes : CalE P w K mg base CX0 2 "level_sizes" (spSizes tb)) : CalE P w K mg base CX0 3 "is_file" (spIsFile K tb) := by
  refine F.cal sc_is_file (fun vs H Q E h => ?_) (fun A outer s H vs Q E hr h => ?_)
  · obtain ⟨a, k, r, rfl, _⟩ := h
    rfl
  · obtain ⟨a, k, r, rfl, c, hl, hT, q⟩ := h
    refine ⟨_, (pss_one (ps_ret (pe_and (pe_cmpR op_ge (pe_callB (q_len (K := K) rfl) (by rfl) T.b_len PySem.boot_len (pa_cons (pv 0) pa_nil)) pe_int (nomark _)) (pe_and (pe_cmpR op_le (pe_ix (q_ixT (K := K) rfl) (pv 0) pe_int (fun _ _ => rfl)) (pe_glo (by rfl) T.m_MOST_LEAVES) (nomark _)) (pe_one (pe_cmpR op_eq (pe_callB (q_len (K := K) rfl) (by rfl) T.b_len PySem.boot_len (pa_cons (pe_cal C_links (hr.mono (by first | decide | omega)) (by rfl) (pa_cons (pv 0) pa_nil)) pa_nil)) (pe_ix (q_ixL (K := K) rfl) (pe_cal C_level_sizes (hr.mono (by first | decide | omega)) (by rfl) (pa_cons (pe_ix (q_ixT (K := K) rfl) (pv 0) pe_int (fun _ _ => rfl)) pa_nil)) (pe_un un_neg pe_int) (fun _ _ => rfl)) (nomark _))))))), ?_⟩
    refine ⟨_, rfl, _, _, rfl, .inr ⟨_, c.sq, rfl⟩, _, _, rfl, rfl, _, rfl, ?_⟩
    cases r with
    | nil =>
      refine iteF ?_
      exact q H Ext.refl
    | cons n r =>
      rw [decide_eq_true (show ((((k :: n :: r).map V.int).length : Nat) : Int) ≥ 2 by rw [List.length_map, List.length_cons, List.length_cons]; omega)]
      refine iteT ?_
      refine ⟨_, rfl, a, _, _, .int n, rfl, rfl, c.sq, atI_nat (j := 1) rfl, _, _, rfl, rfl, _, rfl, ?_⟩
      have q : ∀ H', Ext tb [] H H' → Q (.bl (decide (n ≤ 64) && decide ((((linksN k (n :: r)).length : Nat) : Int) = placesN n))) H' := q
      by_cases h64 : n ≤ 64
      · rw [decide_eq_true h64] at q ⊢
        refine iteT ?_
        refine ⟨_, rfl, a, k, n :: r, rfl, c, hl, hT, fun p H1 e1 hp => ?_⟩
        refine ⟨_, _, rfl, .inr ⟨_, hp, rfl⟩, ?_⟩
        have c1 := c.ext e1 hT
        have hT1 := e1.tabs hT
        refine ⟨_, rfl, a, _, _, .int n, rfl, rfl, c1.sq, atI_nat (j := 1) rfl, n, rfl, h64, hT1, fun p2 H2 ys e2 hp2 => ?_⟩
        refine ⟨_, rfl, p2, _, _, .int (placesN n), rfl, rfl, SqL.of hp2, atI_last _ _, rfl, ?_⟩
        have q0 := q H2 (e1.trans e2)
        rw [Bool.true_and] at q0
        have e2 : decide (V.int (((linksN k (n :: r)).map V.int).length : Int) = V.int (placesN n)) = decide ((((linksN k (n :: r)).length : Nat) : Int) = placesN n) := by
          rw [List.length_map]
          by_cases z : (((linksN k (n :: r)).length : Nat) : Int) = placesN n
          · rw [decide_eq_true z, decide_eq_true (by rw [z])]
          · rw [decide_eq_false z, decide_eq_false (fun y => z (V.int.inj y))]
        rw [← e2] at q0
        exact q0
      · rw [decide_eq_false h64] at q ⊢
        refine iteF ?_
        exact q H Ext.refl

end
end K18

set_option Elab.async false
set_option linter.all false
set_option maxRecDepth 100000
set_option maxHeartbeats 1000000
namespace K18
open PySem PySem.Spec PyProof.Rows L2 HK DT
section
variable {P : Program} {w : World} {K : PySem.W.Frag} {mg : Str → Option Value} {base : Heap} {f : Addr} {cd : Value}
/-! ### folders' blocks -/
def incAt (ns : List Int) (i : Nat) : Bool := match ns[i]?, ns[i + 1]? with
  | some a, some b => decide (a < b)
  | _, _ => true
def incB (ns : List Int) : Bool := (List.range (ns.length - 1)).all (incAt ns)
def okCode (n : Int) : Bool := (codeS (.int n)).isSome
def foldN (k : Int) (r : List Int) : Bool := if (alt r).length ≠ (linksN k r).length ∨ 8 < (alt r).length then false else (alt r).all okCode && incB (alt r)
theorem ret_and {ta tc : TE} {σ : L2.St} {H : Hp} {D : Ends} {nx : L2.St → Hp → Prop} {rt : VK} {bk ct : L2.St → Hp → Prop} (hnx : nx = tRet (tAndV ta tc) D) (h : ta σ H fun x H1 => ∃ c, x = .bl c ∧ if c = true then tc σ H1 D.rt else D.rt (.bl false) H1) : tNext (Ends.mk nx rt bk ct) σ H := by
  subst hnx
  exact h
theorem all_codes {tb : List Addr} {pt pc : Addr} {σ : L2.St} {H2 : Hp} {ns : List Int} {Q : VK} (hσ : σ[1]? = some (some (.ref pc))) (hT2 : Tabs tb H2) (hpt : pt ∈ tb) (hpc2 : SqT K H2 pc (ns.map V.int)) (q : ∀ H', Ext tb [] H2 H' → Q (.bl (ns.all okCode)) H') :
    GX.tAllG pt ["code"] (iTup K (tVar 1)) (gName 0) (tCal (spIsCode K tb) (fun _ => E0) (tCons (tVar 0) tNil)) σ H2 Q := by
  refine ⟨_, hσ, pc, rfl, ⟨_, hpc2⟩, hT2 pt hpt, fun H3 hH3 => ?_⟩
  refine all_tup (fun d => (codeS d).isSome) hT2 hpc2 (Rp_ints ns) (Ext.tabbed hH3 hpt) ?_ ?_
  · intro i H4 x d ex hdi hx R hR
    exact ⟨_, rfl, x, d, rfl, hx, ex.tabs hT2, hR⟩
  · intro H4 e4
    have eall : (ns.map PyData.int).all (fun d => (codeS d).isSome) = ns.all okCode := by
      rw [List.all_map] <;> rfl
    rw [eall]
    exact q H4 e4
theorem all_inc {tb : List Addr} {pt pc : Addr} {σ : L2.St} {H2 : Hp} {ns : List Int} {Q : VK} (hσ : σ[1]? = some (some (.ref pc))) (hT2 : Tabs tb H2) (hpt : pt ∈ tb) (hpc2 : SqT K H2 pc (ns.map V.int)) (q : ∀ H', Ext tb [] H2 H' → Q (.bl (incB ns)) H') :
    GX.tAllG pt ["first", "second"] (RZ.iZipA K (tCons (tVar 1) (tCons (tSl (rSlA K) (tVar 1) (tPart (tC (.int 1))) fun x H Q => Q none H) tNil))) (gTup K 2 (gCons (gName 0) (gCons (gName 1) gNil))) (tOp (rI0 fun i j => V.bl (decide (i < j))) (tVar 0) (tVar 1)) σ H2 Q := by
  refine ⟨_, hσ, _, hσ, _, rfl, ?_⟩
  refine cut_rd hT2 hpc2 fun p5 H5 e5 h5 => ?_
  rw [show (some (1:Int)) = some ((1:Nat):Int) from rfl, cut_from] at h5
  have hT5 := e5.tabs hT2
  have hpc5 := e5.sqT hT2 hpc2 (by simp)
  refine ⟨pc, p5, _, _, rfl, .inr ⟨hpc5, h5, hT5 pt hpt, fun H6 hH6 => ?_⟩⟩
  have e6 : Ext tb [] H5 H6 := Ext.tabbed hH6 hpt
  have hd : ns.length - 1 = (ns.drop 1).length := by rw [List.length_drop]
  refine allG_by (ns.length - 1) (incAt ns) (fun H7 => Ext tb [] H5 H7) e6 (fun H7 e7 => ⟨_, _, e7.sqT hT5 hpc5 (by simp), e7.sqT hT5 h5 (by simp), .inr (by rw [List.length_map, List.length_drop]; exact Nat.le_refl _)⟩) (fun i H7 hi e7 => ⟨_, _, _, _, e7.sqT hT5 hpc5 (by simp), e7.sqT hT5 h5 (by simp), by rw [List.getElem?_map, List.getElem?_eq_getElem (by omega)] <;> rfl, by rw [List.getElem?_map, List.getElem?_eq_getElem (by omega)] <;> rfl⟩) ?_ ?_
  · rintro i H7 x H8 hi e7 ⟨T, x0, y0, rfl, nT, rfl, hx, hy⟩ R hR
    have hx := hx _ (e7.sqT hT5 hpc5 (by simp))
    have hy := hy _ (e7.sqT hT5 h5 (by simp))
    rw [List.getElem?_map] at hx hy
    rw [List.getElem?_drop] at hy
    obtain ⟨a0, ha0, rfl⟩ := Option.map_eq_some_iff.mp hx
    obtain ⟨b0, hb0, rfl⟩ := Option.map_eq_some_iff.mp hy
    have e8 : Ext tb [] H7 (upd H7 T (.tup [.int a0, .int b0])) := Ext.new (e7.tabs hT5) nT
    refine ⟨T, _, rfl, SqT.of upd_same, rfl, _, _, rfl, _, _, rfl, rfl, ?_⟩
    refine ⟨_, rfl, _, rfl, _, _, rfl, rfl, ?_⟩
    have hR' := hR _ (e7.trans e8)
    have : incAt ns i = decide (a0 < b0) := by
      unfold incAt
      rw [ha0, show i + 1 = 1 + i by omega, hb0]
    rw [this] at hR'
    exact hR'
  · rintro H7 b e7 rfl
    exact q H7 (e5.trans e7)
def spIsFolder (K : PySem.W.Frag) (tb : List Addr) : Sp := fun vs H Q _ => ∃ (a : Addr) (k : Int) (r : List Int), vs = [.ref a] ∧ Cnt K H a k r ∧ r.length ≤ 1000 ∧ Tabs tb H ∧ ∀ H', Ext tb [] H H' → Q (.bl (foldN k r)) H'
theorem ok_is_folder_block {c pt : Addr} {tb : List Addr} (T : Txt K mg) (TB : LamX.TabB base mg c pt) (hpt : pt ∈ tb) (F : FnAt K mg "is_folder_block" s_is_folder_block ["content"] f (.ref c)) (C_links : CalE P w K mg base CX0 2 "links" (spLinks K tb)) (C_is_code : CalE P w K mg base CX0 3 "is_code" (spIsCode K tb)) : CalE P w K mg base CX0 5 "is_folder_block" (spIsFolder K tb) := by
  refine F.cal sc_is_folder_block (fun vs H Q E h => ?_) (fun A outer s H vs Q E hr h => ?_)
  · obtain ⟨a, k, r, rfl, _⟩ := h
    rfl
  · obtain ⟨a, k, r, rfl, c, hl, hT, q⟩ := h
    refine ⟨_, (pss_cons (ps_set (i := 1) sc_is_folder_block.nd rfl (.inl rfl) (SL.pe_step (K := K) rfl (pv 0) (po_some pe_int) po_none (po_some pe_int)))
      (pss_cons (ps_if (PW.pt (pw_or (pt_cmpR op_ne (pe_callB (q_len (K := K) rfl) (by rfl) T.b_len PySem.boot_len (pa_cons (pv 1) pa_nil)) (pe_callB (q_len (K := K) rfl) (by rfl) T.b_len PySem.boot_len (pa_cons (pe_cal C_links (hr.mono (by first | decide | omega)) (by rfl) (pa_cons (pv 0) pa_nil)) pa_nil)) (nomark _)) (pw_or1 (pt_cmpR op_gt (pe_callB (q_len (K := K) rfl) (by rfl) T.b_len PySem.boot_len (pa_cons (pv 1) pa_nil)) (pe_glo (by rfl) T.m_MOST_THINGS) (nomark _))))) (pss_one (ps_ret pe_bl)) pss_nil)
      (pss_one (ps_ret (pe_and (GX.pe_allG (N := ["code"]) hr (by rfl) T.b_all TB rfl ⟨rfl, rfl, by decide +kernel, by decide +kernel, by rfl⟩ (q_piT (K := K) rfl (pv 1)) (fun Xg hX => ⟨by obtain ⟨_, _, _, _, _, _, _, rfl⟩ := hX; exact (pg_name (i := 0) (show (["code"] : List Str).Nodup by decide) rfl (.inl rfl)), by have hrg := hX.room hr; obtain ⟨_, _, _, _, _, _, _, rfl⟩ := hX; exact (pe_cal C_is_code (hrg.mono (by first | decide | omega)) (by rfl) (pa_cons (pv 0) pa_nil))⟩)) (pe_one (GX.pe_allG (N := ["first", "second"]) hr (by rfl) T.b_all TB rfl ⟨rfl, rfl, by decide +kernel, by decide +kernel, by rfl⟩ (RJ.q_zipA (K := K) rfl (by rfl) T.b_zip (pa_cons (pv 1) (pa_cons (pe_slice (q_slT (K := K) rfl) (pv 1) (po_some pe_int) po_none) pa_nil))) (fun Xg hX => ⟨by obtain ⟨_, _, _, _, _, _, _, rfl⟩ := hX; exact (RJ.q_pgT (K := K) (n := 2) rfl rfl (pgs_cons (pg_name (i := 0) (show (["first", "second"] : List Str).Nodup by decide) rfl (.inl rfl)) (pgs_cons (pg_name (i := 1) (show (["first", "second"] : List Str).Nodup by decide) rfl (.inl rfl)) pgs_nil))), by obtain ⟨_, _, _, _, _, _, _, rfl⟩ := hX; exact (pe_cmpR op_lt (pv 0) (pv 1) (nomark _))⟩)))))))), ?_⟩
    unfold tNoPart
    have hp1 : SL.pick ((k :: r).map V.int) (some 1) none 2 = (alt r).map V.int := by
      rw [show (some (1:Int)) = some ((1:Nat):Int) from rfl, pick_map, pick2] <;> rfl
    have hal : (alt r).length ≤ 1000 := by rw [alt_len]; omega
    refine ⟨_, rfl, _, rfl, _, rfl, a, _, _, rfl, rfl, by decide, by decide, c.sq, ?_, fun pc npc => ?_⟩
    · rw [hp1, List.length_map]
      exact line_of (by omega)
    rw [hp1]
    have e1 : Ext tb [] H (upd H pc (.tup ((alt r).map V.int))) := Ext.new hT npc
    have hT1 := e1.tabs hT
    have c1 := c.ext e1 hT
    refine ⟨_, rfl, _, _, rfl, .inr ⟨_, SqT.of upd_same, rfl⟩, ?_⟩
    refine ⟨_, rfl, a, k, r, rfl, c1, hl, hT1, fun p2 H2 e2 hp2 => ?_⟩
    have hT2 := e2.tabs hT1
    have hpc2 : SqT K H2 pc ((alt r).map V.int) := e2.sqT hT1 (SqT.of upd_same) (by simp)
    have e02 := e1.trans e2
    refine ⟨_, _, rfl, .inr ⟨_, hp2, rfl⟩, rfl, _, rfl, ?_⟩
    have hq0 : ∀ H', Ext tb [] H H' → ((alt r).length ≠ (linksN k r).length ∨ 8 < (alt r).length) → Q (.bl false) H' := fun H' e h => by
      have := q H' e
      unfold foldN at this
      rw [if_pos h] at this
      exact this
    by_cases hne : (alt r).length = (linksN k r).length
    · rw [decide_eq_true (show V.int (((alt r).map V.int).length : Int) = V.int (((linksN k r).map V.int).length : Int) by rw [List.length_map, List.length_map, hne])]
      refine iteF ?_
      refine ⟨_, rfl, _, _, rfl, .inr ⟨_, hpc2, rfl⟩, _, _, rfl, rfl, _, rfl, ?_⟩
      by_cases h8 : 8 < (alt r).length
      · rw [decide_eq_true (show (8:Int) < ((((alt r).map V.int).length : Nat) : Int) by rw [List.length_map]; omega)]
        exact iteT (hq0 H2 e02 (.inr h8))
      · rw [decide_eq_false (show ¬ (8:Int) < ((((alt r).map V.int).length : Nat) : Int) by rw [List.length_map]; omega)]
        refine iteF ?_
        have hq1 : ∀ H', Ext tb [] H H' → Q (.bl ((alt r).all okCode && incB (alt r))) H' := fun H' e => by
          have := q H' e
          unfold foldN at this
          rw [if_neg (by omega)] at this
          exact this
        refine ret_and rfl ?_
        refine all_codes rfl hT2 hpt hpc2 fun H4 e4 => ?_
        have e04 := e02.trans e4
        refine ⟨_, rfl, ?_⟩
        cases hall : (alt r).all okCode with
        | false =>
          have := hq1 H4 e04
          rw [hall, Bool.false_and] at this
          exact iteF this
        | true =>
          refine iteT ?_
          refine all_inc rfl (e4.tabs hT2) hpt (e4.sqT hT2 hpc2 (by simp)) fun H5 e5 => ?_
          have := hq1 H5 (e04.trans e5)
          rw [hall, Bool.true_and] at this
          exact this
    · rw [decide_eq_false (show ¬ V.int (((alt r).map V.int).length : Int) = V.int (((linksN k r).map V.int).length : Int) from fun z => hne (by have := V.int.inj z; rw [List.length_map, List.length_map] at this; omega))]
      refine iteT ?_
      exact hq0 H2 e02 (.inl hne)

end
end K18

set_option Elab.async false
set_option linter.all false
set_option maxRecDepth 100000
set_option maxHeartbeats 1000000
namespace K18
open PySem PySem.Spec PyProof.Rows L2 HK DT
section
variable {P : Program} {w : World} {K : PySem.W.Frag} {mg : Str → Option Value} {base : Heap} {f : Addr} {cd : Value}
/-! ### is_block -/
def numI : PyData → Int
  | .int i => i
  | _ => 0
def blockN (k : Int) (r : List Int) : Bool :=
  if k = 0 then leafD (.tuple (r.map PyData.int)) else if inV (.int 0) ((linksN k r).map V.int) = true then false
  else if k = 1 then decide (1 ≤ ((linksN k r).length : Int)) && decide (((linksN k r).length : Int) ≤ 4) else if k = 2 then fileN k r else foldN k r
def blockH : List Int → Bool
  | [] => false
  | k :: r => if k ≥ 4 then false else blockN k r
def blockD : PyData → Bool
  | .tuple ds => ds.all nnD && blockH (ds.map numI)
  | _ => false
theorem num_ints : ∀ ns : List Int, (ns.map PyData.int).map numI = ns
  | [] => rfl
  | n :: r => by
    show n :: (r.map PyData.int).map numI = n :: r
    rw [num_ints r]
theorem flat_ints : ∀ ns : List Int, (ns.map V.int).all flatV = true
  | [] => rfl
  | n :: r => by
    show (flatV (.int n) && (r.map V.int).all flatV) = true
    rw [flat_ints r] <;> rfl
def shortL (d : PyData) : Prop := ∀ ds, d = .tuple ds → ds.length ≤ 1000
def spBlock (K : PySem.W.Frag) (tb : List Addr) : Sp := fun vs H Q _ => ∃ (v : V) (d : PyData), vs = [v] ∧ Rp K H v d ∧ shortL d ∧ Tabs tb H ∧ ∀ H', Ext tb [] H H' → Q (.bl (blockD d)) H'
theorem ok_is_block {aK : Addr} {tb : List Addr} (T : Txt K mg) (hK : KindsE K mg aK) (F : FnAt K mg "is_block" s_is_block ["content"] f cd) (C_is_content : CalE P w K mg base CX0 3 "is_content" (spIsContent K tb)) (C_kind_of : CalE P w K mg base CX0 1 "kind_of" (spKind K)) (C_is_leaf : CalE P w K mg base CX0 4 "is_leaf" (spIsLeaf K tb)) (C_links : CalE P w K mg base CX0 2 "links" (spLinks K tb)) (C_is_file : CalE P w K mg base CX0 3 "is_file" (spIsFile K tb)) (C_is_folder_block : CalE P w K mg base CX0 5 "is_folder_block" (spIsFolder K tb)) : CalE P w K mg base CX0 6 "is_block" (spBlock K tb) := by
  refine F.cal sc_is_block (fun vs H Q E h => ?_) (fun A outer s H vs Q E hr h => ?_)
  · obtain ⟨v, d, rfl, _⟩ := h
    rfl
  · obtain ⟨v, d, rfl, hd, hs, hT, q⟩ := h
    refine ⟨_, (pss_cons (ps_if (PW.pt (pw_or (pt_not (pt_val (pe_cal C_is_content (hr.mono (by first | decide | omega)) (by rfl) (pa_cons (pv 0) pa_nil)))) (pw_or (pt_cmpR op_eq (pe_callB (q_len (K := K) rfl) (by rfl) T.b_len PySem.boot_len (pa_cons (pv 0) pa_nil)) pe_int (nomark _)) (pw_or1 (pt_cmpR op_ge (pe_ix (q_ixT (K := K) rfl) (pv 0) pe_int (fun _ _ => rfl)) (pe_callB (q_len (K := K) rfl) (by rfl) T.b_len PySem.boot_len (pa_cons (pe_glo (by rfl) hK.1) pa_nil)) (nomark _)))))) (pss_one (ps_ret pe_bl)) pss_nil)
      (pss_cons (ps_set (i := 1) sc_is_block.nd rfl (.inl rfl) (pe_cal C_kind_of (hr.mono (by first | decide | omega)) (by rfl) (pa_cons (pv 0) pa_nil)))
      (pss_cons (ps_if (pt_cmpR op_eq (pv 1) pe_str (nomark _)) (pss_one (ps_ret (pe_cal C_is_leaf (hr.mono (by first | decide | omega)) (by rfl) (pa_cons (pe_slice (q_slT (K := K) rfl) (pv 0) (po_some pe_int) po_none) pa_nil)))) pss_nil)
      (pss_cons (ps_if (pt_cmpR (q_in (K := K) rfl) pe_int (pe_cal C_links (hr.mono (by first | decide | omega)) (by rfl) (pa_cons (pv 0) pa_nil)) (by rfl)) (pss_one (ps_ret pe_bl)) pss_nil)
      (pss_cons (ps_if (pt_cmpR op_eq (pv 1) pe_str (nomark _)) (pss_one (ps_ret (pe_chain op_le op_le pe_int (pe_callB (q_len (K := K) rfl) (by rfl) T.b_len PySem.boot_len (pa_cons (pe_cal C_links (hr.mono (by first | decide | omega)) (by rfl) (pa_cons (pv 0) pa_nil)) pa_nil)) (pe_glo (by rfl) T.m_BUNDLE)))) pss_nil)
      (pss_cons (ps_if (pt_cmpR op_eq (pv 1) pe_str (nomark _)) (pss_one (ps_ret (pe_cal C_is_file (hr.mono (by first | decide | omega)) (by rfl) (pa_cons (pv 0) pa_nil)))) pss_nil)
      (pss_one (ps_ret (pe_cal C_is_folder_block (hr.mono (by first | decide | omega)) (by rfl) (pa_cons (pv 0) pa_nil)))))))))), ?_⟩
    unfold tNoPart
    refine ⟨_, rfl, v, d, rfl, hd, hT, fun H1 e1 => ⟨_, rfl, ?_⟩⟩
    have hT1 := e1.tabs hT
    cases hc : contD d with
    | false =>
      refine iteT ?_
      refine iteT ?_
      have : blockD d = false := by
        cases d with
        | tuple ds => show (ds.all nnD && _) = false; rw [show ds.all nnD = false from hc, Bool.false_and]
        | _ => rfl
      exact this ▸ q H1 e1
    | true =>
    obtain ⟨ds, rfl⟩ : ∃ ds, d = .tuple ds := by cases d <;> first | exact ⟨_, rfl⟩ | cases hc
    obtain ⟨a, xs, rfl, ha, hxs⟩ := Rp_tup hd
    obtain ⟨ns, rfl, rfl, hnn⟩ := cont_ints hxs hc
    have hlen : ns.length ≤ 1000 := by
      have := hs _ rfl
      rw [List.length_map] at this
      exact this
    have ha1 := e1.sqT hT ha (by simp)
    have q : ∀ H', Ext tb [] H H' → Q (.bl (blockH ns)) H' := fun H' e => by
      have : Q (.bl ((ns.map PyData.int).all nnD && blockH ((ns.map PyData.int).map numI))) H' := q H' e
      rw [show (ns.map PyData.int).all nnD = true from hc, Bool.true_and, num_ints] at this
      exact this
    refine iteF ?_
    refine ⟨_, rfl, _, _, rfl, .inr ⟨_, ha1, rfl⟩, rfl, _, rfl, ?_⟩
    cases ns with
    | nil =>
      refine iteT ?_
      exact q H1 e1
    | cons k r =>
      rw [decide_eq_false (show ¬ V.int ((((k :: r).map V.int).length : Nat) : Int) = V.int 0 from fun z => by have := V.int.inj z; rw [List.length_map, List.length_cons] at this; omega)]
      refine iteF ?_
      have hk0 : 0 ≤ k := hnn k (List.mem_cons_self ..)
      have hr' : r.length ≤ 1000 := by rw [List.length_cons] at hlen; omega
      refine ⟨_, rfl, a, _, _, .int k, rfl, rfl, ha1, atI_nat (j := 0) rfl, _, _, rfl, .inr ⟨_, hK.2 H1, rfl⟩, _, _, rfl, rfl, _, rfl, ?_⟩
      have q : ∀ H', Ext tb [] H H' → Q (.bl (if k ≥ 4 then false else blockN k r)) H' := q
      by_cases h4 : k ≥ 4
      · rw [decide_eq_true (show k ≥ (((kinds.map V.str).length : Nat) : Int) from h4)]
        have := q H1 e1
        rw [if_pos h4] at this
        exact iteT this
      · rw [decide_eq_false (show ¬ k ≥ (((kinds.map V.str).length : Nat) : Int) from h4)]
        refine iteF ?_
        have c : Cnt K H1 a k r := ⟨ha1, hk0, by omega⟩
        have q : ∀ H', Ext tb [] H H' → Q (.bl (blockN k r)) H' := fun H' e => by
          have := q H' e
          rw [if_neg h4] at this
          exact this
        obtain ⟨k0, k1, k2⟩ := kind_eq c.lo c.hi
        refine ⟨_, rfl, a, k, r, rfl, c, _, rfl, rfl, _, rfl, ?_⟩
        by_cases z0 : k = 0
        · rw [decide_eq_true (k0.mpr z0)]
          refine iteT ?_
          refine ⟨_, rfl, _, rfl, ?_⟩
          refine cut_rd hT1 c.sq fun p H2 e2 h2 => ?_
          rw [show (some (1:Int)) = some ((1:Nat):Int) from rfl, cut_from] at h2
          refine ⟨_, .tuple (r.map PyData.int), rfl, .tup h2 (Rp_ints r), e2.tabs hT1, fun H3 e3 => ?_⟩
          have := q H3 ((e1.trans e2).trans e3)
          unfold blockN at this
          rw [if_pos z0] at this
          exact this
        rw [decide_eq_false (fun z => z0 (k0.mp z))]
        refine iteF ?_
        refine ⟨_, rfl, a, k, r, rfl, c, hr', hT1, fun p2 H2 e2 hp2 => ?_⟩
        have hT2 := e2.tabs hT1
        have e02 := e1.trans e2
        have c2 := c.ext e2 hT1
        refine ⟨p2, _, rfl, .inr hp2, rfl, flat_ints _, _, rfl, ?_⟩
        have hb : blockN k r = if inV (.int 0) ((linksN k r).map V.int) = true then false else if k = 1 then decide (1 ≤ ((linksN k r).length : Int)) && decide (((linksN k r).length : Int) ≤ 4) else if k = 2 then fileN k r else foldN k r := by
          unfold blockN
          rw [if_neg z0]
        have q : ∀ H', Ext tb [] H H' → Q (.bl (if inV (.int 0) ((linksN k r).map V.int) = true then false else if k = 1 then decide (1 ≤ ((linksN k r).length : Int)) && decide (((linksN k r).length : Int) ≤ 4) else if k = 2 then fileN k r else foldN k r)) H' := fun H' e => hb ▸ q H' e
        cases hin : inV (.int 0) ((linksN k r).map V.int) with
        | true =>
          have := q H2 e02
          rw [hin, if_pos rfl] at this
          exact iteT this
        | false =>
        have q : ∀ H', Ext tb [] H H' → Q (.bl (if k = 1 then decide (1 ≤ ((linksN k r).length : Int)) && decide (((linksN k r).length : Int) ≤ 4) else if k = 2 then fileN k r else foldN k r)) H' := fun H' e => by
          have := q H' e
          rw [hin, if_neg Bool.false_ne_true] at this
          exact this
        refine iteF ?_
        refine ⟨_, rfl, rfl, _, rfl, ?_⟩
        by_cases z1 : k = 1
        · rw [decide_eq_true (k1.mpr z1)]
          refine iteT ?_
          refine ⟨_, rfl, a, k, r, rfl, c2, hr', hT2, fun p3 H3 e3 hp3 => ?_⟩
          refine ⟨_, _, rfl, .inr ⟨_, hp3, rfl⟩, _, _, rfl, rfl, _, rfl, ?_⟩
          have q0 := q H3 (e02.trans e3)
          rw [if_pos z1] at q0
          rw [List.length_map]
          cases h1 : decide (1 ≤ ((linksN k r).length : Int)) with
          | false =>
            rw [h1, Bool.false_and] at q0
            exact iteF q0
          | true =>
            rw [h1, Bool.true_and] at q0
            exact iteT ⟨_, _, rfl, rfl, q0⟩
        rw [decide_eq_false (fun z => z1 (k1.mp z))]
        refine iteF ?_
        refine ⟨_, rfl, rfl, _, rfl, ?_⟩
        by_cases z2 : k = 2
        · rw [decide_eq_true (k2.mpr z2)]
          refine iteT ?_
          refine ⟨_, rfl, a, k, r, rfl, c2, hr', hT2, fun H3 e3 => ?_⟩
          have q0 := q H3 (e02.trans e3)
          rw [if_neg z1, if_pos z2] at q0
          exact q0
        rw [decide_eq_false (fun z => z2 (k2.mp z))]
        refine iteF ?_
        refine ⟨_, rfl, a, k, r, rfl, c2, hr', hT2, fun H3 e3 => ?_⟩
        have q0 := q H3 (e02.trans e3)
        rw [if_neg z1, if_neg z2] at q0
        exact q0

end
end K18

set_option Elab.async false
set_option linter.all false
set_option maxRecDepth 100000
set_option maxHeartbeats 1000000
namespace K18
open PySem PySem.Spec PyProof.Rows L2 HK DT
section
variable {P : Program} {w : World} {K : PySem.W.Frag} {mg : Str → Option Value} {base : Heap} {f : Addr} {cd : Value}
/-! ### the law's own defs -/
def topsF : Nat → Int → Int
  | 0, v => v
  | m + 1, v => if 4 < v then topsF m ((v + 3) / 4) else v
theorem tops_le {m : Nat} {v : Int} (h : ¬ 4 < v) : topsF m v = v := by
  cases m with
  | zero => rfl
  | succ m => show (if 4 < v then _ else v) = v; rw [if_neg h]
theorem tops_places {n : Int} (h0 : 0 ≤ n) (h : n ≤ 64) : topsF 2 n = placesN n := by
  have key : ∀ k : Fin 65, topsF 2 ((k.val : Nat) : Int) = placesN ((k.val : Nat) : Int) := by decide +kernel
  have := key ⟨n.toNat, by omega⟩
  have e : ((n.toNat : Nat) : Int) = n := by omega
  rw [show (((⟨n.toNat, by omega⟩ : Fin 65).val : Nat) : Int) = n from e] at this
  exact this
def spTops : Sp := fun vs H Q _ => ∃ n : Int, vs = [.int n] ∧ 0 ≤ n ∧ n ≤ 64 ∧ Q (.int (placesN n)) H
theorem ok_l_tops (F : FnAt K mg "_law_tops" s_l_tops ["_law_many"] f cd) : CalE P w K mg base CX0 1 "_law_tops" spTops := by
  refine F.cal sc_l_tops (fun vs H Q E h => ?_) (fun A outer s H vs Q E hr h => ?_)
  · obtain ⟨n, rfl, _⟩ := h
    rfl
  · obtain ⟨n, rfl, h0, hn, q⟩ := h
    refine ⟨_, (pss_cons (ps_while PassesOwn.never (pt_cmpR op_gt (pv 0) pe_int (nomark _)) (pss_one (ps_set (i := 0) sc_l_tops.nd rfl (.inl rfl) (pe_op op_fdiv (pe_op op_add (pv 0) pe_int) pe_int))))
      (pss_one (ps_ret (pv 0)))), ?_⟩
    refine ⟨fun m σ H2 => H2 = H ∧ ∃ v : Int, σ = [some (.int v)] ∧ v ≤ 4 ^ (m + 1) ∧ topsF m v = topsF 2 n, ⟨2, rfl, n, rfl, hn, rfl⟩, ?_⟩
    rintro m σ H2 ⟨rfl, v, rfl, hv, ht⟩
    refine ⟨_, rfl, _, _, rfl, rfl, _, rfl, ?_⟩
    by_cases h : (4:Int) < v
    · rw [decide_eq_true h]
      obtain ⟨m', rfl⟩ : ∃ m', m = m' + 1 := by
        cases m with
        | zero => exact absurd (show v ≤ 4 from hv) (by omega)
        | succ m' => exact ⟨m', rfl⟩
      refine iteT ⟨fun σ' H' => H' = H2 ∧ σ' = [some (.int ((v + 3) / 4))], ?_, ?_⟩
      · rintro σ' H' ⟨rfl, rfl⟩
        refine ⟨m', Nat.lt_succ_self _, rfl, _, rfl, ?_, ?_⟩
        · rw [Int.pow_succ] at hv
          omega
        · rw [← ht]
          show _ = if 4 < v then topsF m' ((v + 3) / 4) else v
          rw [if_pos h]
      · exact ⟨_, rfl, _, _, rfl, rfl, _, _, rfl, rfl, ⟨by decide, by decide⟩, rfl, rfl⟩
    · rw [decide_eq_false h]
      refine iteF ?_
      have e : v = placesN n := by rw [← tops_places h0 hn, ← ht, tops_le h]
      exact ⟨_, rfl, e ▸ q⟩
def lims : List Int := [4, 16, 64]
def spLHeight (tb : List Addr) : Sp := fun vs H Q _ => ∃ n : Int, vs = [.int n] ∧ n ≤ 64 ∧ Tabs tb H ∧ ∀ H', Ext tb [] H H' → Q (.int (heightN n)) H'
theorem ok_l_height {tb : List Addr} (F : FnAt K mg "_law_height" s_l_height ["_law_many"] f cd) : CalE P w K mg base CX0 1 "_law_height" (spLHeight tb) := by
  refine F.cal sc_l_height (fun vs H Q E h => ?_) (fun A outer s H vs Q E hr h => ?_)
  · obtain ⟨n, rfl, _⟩ := h
    rfl
  · obtain ⟨n, rfl, hn, hT, q⟩ := h
    refine ⟨_, (pss_cons (ps_set (i := 1) sc_l_height.nd rfl (.inl rfl) pe_int)
      (pss_cons (ps_while PassesOwn.never (pt_cmpR op_lt (pe_ix (q_ixL (K := K) rfl) (pe_lst (pa_cons pe_int (pa_cons pe_int (pa_cons pe_int pa_nil)))) (pe_op op_sub (pv 1) pe_int) (fun _ _ => rfl)) (pv 0) (nomark _)) (pss_one (ps_set (i := 1) sc_l_height.nd rfl (.inl rfl) (pe_op op_add (pv 1) pe_int))))
      (pss_one (ps_ret (pv 1))))), ?_⟩
    refine ⟨fun m σ H2 => Ext tb [] H H2 ∧ ((m = 2 ∧ σ = [some (.int n), some (.int 1)]) ∨ (m = 1 ∧ 4 < n ∧ σ = [some (.int n), some (.int 2)]) ∨ (m = 0 ∧ 16 < n ∧ σ = [some (.int n), some (.int 3)])), ⟨2, Ext.refl, .inl ⟨rfl, rfl⟩⟩, ?_⟩
    rintro m σ H2 ⟨e2, h⟩
    have hT2 := e2.tabs hT
    have hq : ∀ (k : Int) (H' : Hp), Ext tb [] H H' → heightN n = k → Q (.int k) H' := fun k H' e z => z ▸ q H' e
    rcases h with ⟨rfl, rfl⟩ | ⟨rfl, h4, rfl⟩ | ⟨rfl, h16, rfl⟩
    · refine ⟨by show 3 ≤ sizeLine; decide, fun t nt => ?_⟩
      have e3 : Ext tb [] H (upd H2 t (.lst (lims.map V.int))) := e2.trans (Ext.new hT2 nt)
      refine ⟨_, rfl, _, _, rfl, rfl, t, lims.map V.int, _, .int 4, rfl, rfl, SqL.of upd_same, rfl, _, rfl, _, _, rfl, rfl, _, rfl, ?_⟩
      by_cases h : (4:Int) < n
      · rw [decide_eq_true h]
        refine iteT ⟨fun σ' H' => Ext tb [] H H' ∧ σ' = [some (.int n), some (.int 2)], ?_, ?_⟩
        · rintro σ' H' ⟨e, rfl⟩
          exact ⟨1, by decide, e, .inr (.inl ⟨rfl, h, rfl⟩)⟩
        · exact ⟨_, rfl, _, _, rfl, rfl, e3, rfl⟩
      · rw [decide_eq_false h]
        exact iteF ⟨_, rfl, hq 1 _ e3 (by unfold heightN; rw [if_pos (by omega)])⟩
    · refine ⟨by show 3 ≤ sizeLine; decide, fun t nt => ?_⟩
      have e3 : Ext tb [] H (upd H2 t (.lst (lims.map V.int))) := e2.trans (Ext.new hT2 nt)
      refine ⟨_, rfl, _, _, rfl, rfl, t, lims.map V.int, _, .int 16, rfl, rfl, SqL.of upd_same, rfl, _, rfl, _, _, rfl, rfl, _, rfl, ?_⟩
      by_cases h : (16:Int) < n
      · rw [decide_eq_true h]
        refine iteT ⟨fun σ' H' => Ext tb [] H H' ∧ σ' = [some (.int n), some (.int 3)], ?_, ?_⟩
        · rintro σ' H' ⟨e, rfl⟩
          exact ⟨0, by decide, e, .inr (.inr ⟨rfl, h, rfl⟩)⟩
        · exact ⟨_, rfl, _, _, rfl, rfl, e3, rfl⟩
      · rw [decide_eq_false h]
        exact iteF ⟨_, rfl, hq 2 _ e3 (by unfold heightN; rw [if_neg (by omega), if_pos (by omega)])⟩
    · refine ⟨by show 3 ≤ sizeLine; decide, fun t nt => ?_⟩
      have e3 : Ext tb [] H (upd H2 t (.lst (lims.map V.int))) := e2.trans (Ext.new hT2 nt)
      refine ⟨_, rfl, _, _, rfl, rfl, t, lims.map V.int, _, .int 64, rfl, rfl, SqL.of upd_same, rfl, _, rfl, _, _, rfl, rfl, _, rfl, ?_⟩
      rw [decide_eq_false (show ¬ (64:Int) < n by omega)]
      exact iteF ⟨_, rfl, hq 3 _ e3 (by unfold heightN; rw [if_neg (by omega), if_neg (by omega)])⟩
theorem mod_rg (x m : Int) (h : 0 < m) : 0 ≤ x % m ∧ x % m < m := ⟨Int.emod_nonneg _ (by omega), Int.emod_lt_of_pos _ h⟩
theorem at_map {α : Type} (g : α → V) {l : List α} {i : Int} (h0 : 0 ≤ i) (h1 : i < l.length) : ∃ m, m ∈ l ∧ atI (l.map g) i = some (g m) := by
  have hk : i.toNat < l.length := by omega
  exact ⟨l[i.toNat], List.getElem_mem hk, at_of (j := i.toNat) (by omega) (by rw [List.getElem?_map, List.getElem?_eq_getElem hk] <;> rfl)⟩
def sizes : List Int := [3, 400, 10 ^ (12:Int).toNat]
def spLPlaces (tb : List Addr) : Sp := fun vs H Q _ => ∃ (d : Addr) (ds : List Int) (m : Int), vs = [.ref d, .int m] ∧ 0 ≤ m ∧ m ≤ 100 ∧ H d = some (.lst (ds.map V.int)) ∧ Dr ds ∧ Tabs tb H ∧
  ∀ (ps r : List Int) p H', ps.length = m.toNat → (∀ n ∈ ps, 1 ≤ n) → Dr r → Ext tb [d] H H' → H' d = some (.lst (r.map V.int)) → H' p = some (.tup (ps.map V.int)) → Q (.ref p) H'
theorem ok_l_places {tb : List Addr} (T : Txt K mg) (F : FnAt K mg "_law_places" s_l_places ["_law_drawn", "_law_many"] f cd) (C_l_next : CalE P w K mg base CX0 1 "_law_next" (spNext tb)) : CalE P w K mg base CX0 2 "_law_places" (spLPlaces tb) := by
  refine F.cal sc_l_places (fun vs H Q E h => ?_) (fun A outer s H vs Q E hr h => ?_)
  · obtain ⟨d, ds, m, rfl, _⟩ := h
    rfl
  · obtain ⟨d, ds, m, rfl, hm0, hm, hd, hD, hT, q⟩ := h
    refine ⟨_, (pss_cons (ps_set (i := 2) sc_l_places.nd rfl (.inr rfl) (pe_cal C_l_next (hr.mono (by first | decide | omega)) (by rfl) (pa_cons (pv 0) pa_nil)))
      (pss_cons (ps_set (i := 3) sc_l_places.nd rfl (.inr rfl) (pe_ix (q_ixL (K := K) rfl) (pe_lst (pa_cons pe_int (pa_cons pe_int (pa_cons (pe_op op_pow pe_int pe_int) pa_nil)))) (pe_op op_mod (pv 2) pe_int) (fun _ _ => rfl)))
      (pss_one (ps_ret (pe_callTy (q_tup (K := K) rfl) (by rfl) T.b_tuple (by decide +kernel) (pa_cons (pe_lc (own := [("_law_k", 4)]) (g := gName 4) (tt := tYes) (by rfl) sc_l_places.nd (pi_range1 (by rfl) T.b_range (pa_cons (pv 1) pa_nil)) (blkOk_by (own := [("_law_k", 4)]) (N := n_l_places) (sc := defScope s_l_places) (by decide +kernel)) (fun _ _ _ _ _ => (pg_name (i := 4) sc_l_places.nd rfl (.inl rfl))) (fun _ _ _ _ _ => pts_nil) (fun _ _ _ _ _ => (pe_op op_add pe_int (pe_op op_mod (pe_op op_add (pe_op op_fdiv (pe_op op_fdiv (pv 2) pe_int) (pe_op op_add (pv 4) pe_int)) (pe_op op_mul (pv 4) (pe_op op_mod (pv 2) pe_int))) (pv 3))))) pa_nil)))))), ?_⟩
    refine ⟨_, rfl, d, ds, rfl, hd, hD, hT, fun x r H1 hx hr1 ex1 hd1 => ?_⟩
    have hT1 := ex1.tabs hT
    refine ⟨_, _, rfl, rfl, ⟨by decide, by decide, by decide⟩, by show 3 ≤ sizeLine; decide, fun t nt => ?_⟩
    have b := mod_rg x 3 (by decide)
    obtain ⟨z, hz, hza⟩ := at_map V.int (l := sizes) b.1 b.2
    have hz0 : 0 < z := by
      have : ∀ z ∈ sizes, 0 < z := by decide
      exact this z hz
    have ntd : t ≠ d := fun z => by rw [z, hd1] at nt; cases nt
    have ex2 : Ext tb [d] H (upd H1 t (.lst (sizes.map V.int))) := ex1.trans (Ext.new hT1 nt)
    have hd2 : (upd H1 t (.lst (sizes.map V.int))) d = some (.lst (r.map V.int)) := by rw [upd_ne (Ne.symm ntd)]; exact hd1
    refine ⟨_, rfl, _, _, rfl, rfl, (by show (0:Int) < 3; decide), t, sizes.map V.int, x % 3, .int z, rfl, rfl, SqL.of upd_same, hza, ?_⟩
    refine ⟨_, rfl, _, rfl, by omega, by omega, fun D hDn => ?_⟩
    have hDn : (upd H1 t (.lst (sizes.map V.int))) D = none := hDn
    have nDd : D ≠ d := fun z => by rw [z, hd2] at hDn; cases hDn
    have hDn0 : H D = none := ex2.free hT hDn (by simp [nDd])
    refine lc_range (lo := 0) (n := m.toNat) (fun i H2 => ∃ ns : List Int, ns.length = i ∧ (∀ n ∈ ns, 1 ≤ n) ∧ H2 d = some (.lst (r.map V.int)) ∧ H2 D = some (.lst (ns.map V.int)) ∧ Ext tb [d] H H2) ?_ ?_ ?_
    · exact ⟨[], rfl, fun s hs => (by cases hs), by rw [upd_ne (Ne.symm nDd)]; exact hd2, upd_same, Ext.own hT ex2 hDn0⟩
    · rintro i H2 hi ⟨ns, hl2, hm2, hd2, hDD2, ex2⟩
      have b3 := mod_rg x 3 (by decide)
      refine ⟨rfl, _, rfl, _, _, rfl, rfl, ⟨by decide, by decide⟩, _, rfl, _, _, rfl, rfl, _, _, rfl, rfl, ⟨by show (0:Int) < 0 + (i : Int) + 1; omega, by show 0 + (i : Int) + 1 < 1073741824; omega⟩, ?_⟩
      refine ⟨_, rfl, _, rfl, _, _, rfl, rfl, (by show (0:Int) < 3; decide), _, _, rfl, rfl, .inl ⟨by omega, by omega⟩, _, _, rfl, rfl, ?_⟩
      refine ⟨_, rfl, _, _, rfl, rfl, hz0, _, _, rfl, rfl, ?_⟩
      generalize hv : 1 + (x / 3 / (0 + (i : Int) + 1) + (0 + (i : Int)) * (x % 3)) % z = v
      have bv : 1 ≤ v := by
        have := mod_rg (x / 3 / (0 + (i : Int) + 1) + (0 + (i : Int)) * (x % 3)) z hz0
        omega
      refine ⟨_, hDD2, line_lt (by rw [List.length_map]; omega), ?_⟩
      refine ⟨ns ++ [v], by rw [List.length_append, hl2] <;> rfl, fun s hs => ?_, by rw [upd_ne (Ne.symm nDd)]; exact hd2, by rw [upd_same, List.map_append, ← hv] <;> rfl, Ext.own hT ex2 hDn0⟩
      rcases List.mem_append.mp hs with h1 | h1
      · exact hm2 s h1
      · rw [List.mem_singleton.mp h1]
        exact bv
    · rintro H2 ⟨ns, hl2, hm2, hd2, hDD2, ex2⟩
      refine ⟨D, _, rfl, .inl ⟨SqL.of hDD2, fun l hl => ?_⟩⟩
      have nld : l ≠ d := fun z => by rw [z, hd2] at hl; cases hl
      exact q ns r l _ hl2 hm2 hr1 (Ext.own hT ex2 (ex2.free hT hl (by simp [nld]))) (by rw [upd_ne (Ne.symm nld)]; exact hd2) upd_same

end
end K18

set_option Elab.async false
set_option linter.all false
set_option maxRecDepth 100000
set_option maxHeartbeats 1000000
namespace K18
open PySem PySem.Spec PyProof.Rows L2 HK DT
section
variable {P : Program} {w : World} {K : PySem.W.Frag} {mg : Str → Option Value} {base : Heap} {f : Addr} {cd : Value}
/-! ### the law's codes, links -/
def Lg (i : Nat) (c : Int) : Prop := 0 ≤ c ∧ c < 27 ^ i ∧ ∀ f, i ≤ f → (lets f c).isSome = true
theorem Lg.zero : Lg 0 0 := ⟨by decide, by decide, fun f _ => by rw [lets0 f (Int.le_refl 0)] <;> rfl⟩
theorem Lg.next {i : Nat} {c d : Int} (h : Lg i c) (h0 : 0 ≤ d) (h1 : d < 26) : Lg (i + 1) (c * 27 + 1 + d) := by
  obtain ⟨a, b, e⟩ := h
  refine ⟨by omega, by rw [Int.pow_succ]; omega, fun f hf => ?_⟩
  obtain ⟨g, rfl⟩ : ∃ g, f = g + 1 := ⟨f - 1, by omega⟩
  show (if c * 27 + 1 + d ≤ 0 then some [] else if (c * 27 + 1 + d) % 27 = 0 then none else (lets g ((c * 27 + 1 + d) / 27)).map _).isSome = true
  rw [if_neg (by omega), if_neg (by omega), show (c * 27 + 1 + d) / 27 = c by omega, Option.isSome_map]
  exact e g (by omega)
theorem Lg.ok {i : Nat} {c : Int} (h : Lg i c) (h8 : i ≤ 8) (h0 : 0 < c) : okCode c = true := by
  obtain ⟨a, b, e⟩ := h
  have b8 : c < 282429536481 := Int.lt_of_lt_of_le b (by
    have : ∀ j : Fin 9, (27:Int) ^ j.val ≤ 282429536481 := by decide +kernel
    exact this ⟨i, by omega⟩)
  show (if 0 < c ∧ c < 282429536481 then (lets 8 c).map _ else none).isSome = true
  rw [if_pos ⟨h0, b8⟩, Option.isSome_map]
  exact e 8 h8
def spLCode : Sp := fun vs H Q _ => ∃ n : Int, vs = [.int n] ∧ ∀ c, okCode c = true → Q (.int c) H
theorem ok_l_code (T : Txt K mg) (F : FnAt K mg "_law_code" s_l_code ["_law_number"] f cd) : CalE P w K mg base CX0 1 "_law_code" spLCode := by
  refine F.cal sc_l_code (fun vs H Q E h => ?_) (fun A outer s H vs Q E hr h => ?_)
  · obtain ⟨n, rfl, _⟩ := h
    rfl
  · obtain ⟨n, rfl, q⟩ := h
    refine ⟨_, (pss_cons (ps_set (i := 1) sc_l_code.nd rfl (.inl rfl) pe_int)
      (pss_cons (ps_for PassesOwn.never rfl (pi_range1 (by rfl) T.b_range (pa_cons (pe_op op_add pe_int (pe_op op_mod (pv 0) pe_int)) pa_nil)) (pg_name (i := 2) sc_l_code.nd rfl (.inl rfl)) (pss_one (ps_set (i := 1) sc_l_code.nd rfl (.inl rfl) (pe_op op_add (pe_op op_add (pe_op op_mul (pv 1) pe_int) pe_int) (pe_op op_mod (pe_op op_fdiv (pv 0) (pe_op op_mul pe_int (pe_op op_add (pv 2) pe_int))) pe_int)))))
      (pss_one (ps_ret (pv 1))))), ?_⟩
    have b := mod_rg n 8 (by decide)
    refine ⟨_, rfl, _, _, rfl, rfl, (by show (0:Int) < 8; decide), _, _, rfl, rfl, _, rfl, by omega, by omega, for_range (lo := 0) (n := (1 + n % 8).toNat) (fun i σ H2 => H2 = H ∧ ∃ (c : Int) (y2 : Option V), σ = [some (.int n), some (.int c), y2] ∧ Lg i c ∧ (0 < i → 0 < c)) ⟨rfl, 0, none, rfl, .zero, fun z => absurd z (by decide)⟩ ?_ ?_⟩
    · rintro i σ H2 hi ⟨rfl, c, y2, rfl, hL, hp⟩
      have b2 := mod_rg (n / (8 * (0 + (i : Int) + 1))) 26 (by decide)
      refine ⟨_, rfl, _, _, rfl, rfl, .inr ⟨by decide, by decide⟩, _, _, rfl, rfl, ?_⟩
      refine ⟨_, rfl, _, rfl, _, _, rfl, rfl, _, _, rfl, rfl, .inl ⟨by decide, by decide⟩, _, _, rfl, rfl, ⟨by show (0:Int) < 8 * (0 + (i : Int) + 1); omega, by show 8 * (0 + (i : Int) + 1) < 1073741824; omega⟩, _, _, rfl, rfl, (by show (0:Int) < 26; decide), _, _, rfl, rfl, rfl, ?_⟩
      refine ⟨_, _, rfl, hL.next b2.1 b2.2, fun _ => ?_⟩
      have := hL.1
      omega
    · rintro σ H2 ⟨rfl, c, y2, rfl, hL, hp⟩
      exact ⟨_, rfl, q c (hL.ok (by omega) (hp (by omega)))⟩
theorem ok_l_links {tb : List Addr} (T : Txt K mg) (F : FnAt K mg "_law_links" s_l_links ["_law_content"] f cd) : CalE P w K mg base CX0 1 "_law_links" (spLinks K tb) := by
  refine F.cal sc_l_links (fun vs H Q E h => ?_) (fun A outer s H vs Q E hr h => ?_)
  · obtain ⟨a, k, r, rfl, _⟩ := h
    rfl
  · obtain ⟨a, k, r, rfl, c, hl, hT, q⟩ := h
    refine ⟨_, (pss_cons (ps_if (pt_cmpR op_eq (pe_ix (q_ixT (K := K) rfl) (pv 0) pe_int (fun _ _ => rfl)) pe_int (nomark _)) (pss_one (ps_ret (pe_tup pa_nil))) pss_nil)
      (pss_cons (ps_if (pt_cmpR op_lt (pe_ix (q_ixT (K := K) rfl) (pv 0) pe_int (fun _ _ => rfl)) pe_int (nomark _)) (pss_one (ps_ret (pe_slice (q_slT (K := K) rfl) (pv 0) (po_some (pe_ix (q_ixT (K := K) rfl) (pv 0) pe_int (fun _ _ => rfl))) po_none))) pss_nil)
      (pss_one (ps_ret (pe_callTy (q_tup (K := K) rfl) (by rfl) T.b_tuple (by decide +kernel) (pa_cons (pe_lc (own := [("_law_k", 1)]) (g := gName 1) (tt := tYes) (by rfl) sc_l_links.nd (pi_range3 (by rfl) T.b_range (pa_cons pe_int (pa_cons (pe_callB (q_len (K := K) rfl) (by rfl) T.b_len PySem.boot_len (pa_cons (pv 0) pa_nil)) (pa_cons pe_int pa_nil)))) (blkOk_by (own := [("_law_k", 1)]) (N := n_l_links) (sc := defScope s_l_links) (by decide +kernel)) (fun _ _ _ _ _ => (pg_name (i := 1) sc_l_links.nd rfl (.inl rfl))) (fun _ _ _ _ _ => pts_nil) (fun _ _ _ _ _ => (pe_ix (q_ixT (K := K) rfl) (pv 0) (pv 1) (fun _ _ => rfl)))) pa_nil)))))), ?_⟩
    unfold tNoPart
    have hk := c.lo
    have hk4 := c.hi
    refine ⟨_, rfl, a, _, _, .int k, rfl, rfl, c.sq, atI_nat (j := 0) rfl, rfl, _, rfl, ?_⟩
    by_cases z0 : k = 0
    · rw [decide_eq_true (show V.int k = V.int 0 by rw [z0])]
      refine iteT ⟨Nat.zero_le _, fun p np => q p _ (Ext.new hT np) ?_⟩
      unfold linksN
      rw [if_pos z0]
      exact SqT.of upd_same
    rw [decide_eq_false (fun z : V.int k = V.int 0 => z0 (V.int.inj z))]
    refine iteF ?_
    refine ⟨_, rfl, a, _, _, .int k, rfl, rfl, c.sq, atI_nat (j := 0) rfl, _, _, rfl, rfl, _, rfl, ?_⟩
    by_cases z3 : k < 3
    · rw [decide_eq_true z3]
      refine iteT ?_
      refine ⟨_, rfl, _, rfl, a, _, _, .int k, rfl, rfl, c.sq, atI_nat (j := 0) rfl, ?_⟩
      have : k = 1 ∨ k = 2 := by omega
      rcases this with rfl | rfl
      · refine ⟨_, rfl, ?_⟩
        refine cut_rd hT c.sq fun p H' e h => q p H' e ?_
        rw [show (some (1:Int)) = some ((1:Nat):Int) from rfl, cut_from] at h
        exact h
      · refine ⟨_, rfl, ?_⟩
        refine cut_rd hT c.sq fun p H' e h => q p H' e ?_
        rw [show (some (2:Int)) = some ((2:Nat):Int) from rfl, cut_from] at h
        exact h
    rw [decide_eq_false z3]
    refine iteF ?_
    obtain rfl : k = 3 := by omega
    have hn : RgC 2 ((((3 :: r).map V.int).length : Nat) : Int) 2 (((r.drop 1).length + 1) / 2) := by
      rw [List.length_map, List.length_cons, List.length_drop]
      have fits : ∀ z : Int, 0 ≤ z → z ≤ 100000 → Builtin.Range.rangeFitsLong z = true := fun z h0 h1 => by
        unfold Builtin.Range.rangeFitsLong
        simp
        omega
      have sz : Builtin.Range.rangeSize 2 ((r.length + 1 : Nat) : Int) 2 = (((r.length - 1 + 1) / 2 : Nat) : Int) := by
        unfold Builtin.Range.rangeSize
        rw [if_pos (by decide)]
        split <;> omega
      refine ⟨by decide, by decide, ?_, sz⟩
      unfold Builtin.Range.small
      rw [sz, if_pos (by decide), fits 2 (by decide) (by decide), fits ((r.length + 1 : Nat) : Int) (by omega) (by omega), fits (((r.length - 1 + 1) / 2 : Nat) : Int) (by omega) (by omega), fits _ (by omega) (by omega), Bool.or_true]
      rfl
    refine ⟨_, rfl, _, _, rfl, .inr ⟨_, c.sq, rfl⟩, _, _, _, _, rfl, hn, fun D hDn => ?_⟩
    have hDn : H D = none := hDn
    have eL : (r.drop 1).length + 1 ≤ 1001 := by rw [List.length_drop]; omega
    refine lc_it walk_rangeC (fun i H2 => H2 D = some (.lst (((List.range i).filterMap fun m => (r.drop 1)[2 * m]?).map V.int)) ∧ Ext tb [] H H2) ⟨upd_same, Ext.new hT hDn⟩ (fun _ _ _ _ => trivial) ?_ ?_
    · rintro i x H2 H3 hi ⟨hD2, ex2⟩ ⟨rfl, rfl⟩
      have hlt : 2 * i < (r.drop 1).length := by omega
      have g1 : (r.drop 1)[2 * i]? = some ((r.drop 1)[2 * i]) := List.getElem?_eq_getElem hlt
      generalize (r.drop 1)[2 * i] = v at g1
      have g2 : ((3 :: r).map V.int)[2 + 2 * i]? = some (.int v) := by
        rw [List.getElem?_map, show 2 + 2 * i = (1 + 2 * i) + 1 by omega, List.getElem?_cons_succ, ← List.getElem?_drop, g1] <;> rfl
      refine ⟨rfl, _, rfl, _, rfl, a, _, _, .int v, rfl, rfl, ex2.sqT hT c.sq (by simp), at_of (j := 2 + 2 * i) (by omega) g2, _, hD2, ?_, ?_, Ext.own hT ex2 hDn⟩
      · refine line_lt ?_
        rw [List.length_map]
        refine Nat.le_trans (List.length_filterMap_le ..) ?_
        rw [List.length_range]
        omega
      · rw [upd_same, List.range_succ, List.filterMap_append, List.map_append]
        simp only [List.filterMap_cons, List.filterMap_nil, g1]
        rfl
    · rintro H2 ⟨hD2, ex2⟩
      rw [alt_eq] at hD2
      refine ⟨D, _, rfl, .inl ⟨SqL.of hD2, fun p np => q p _ (ex2.trans (Ext.new (ex2.tabs hT) np)) ?_⟩⟩
      exact SqT.of upd_same

end
end K18

set_option Elab.async false
set_option linter.all false
set_option maxRecDepth 100000
set_option maxHeartbeats 1000000
namespace K18
open PySem PySem.Spec PyProof.Rows L2 HK DT
section
variable {P : Program} {w : World} {K : PySem.W.Frag} {mg : Str → Option Value} {base : Heap} {f : Addr} {cd : Value}
/-! ### the law's blocks -/
theorem all_ints {f : PyData → Bool} : ∀ {ns : List Int}, (∀ n ∈ ns, f (.int n) = true) → (ns.map PyData.int).all f = true
  | [], _ => rfl
  | n :: r, h => by
    rw [List.map_cons, List.all_cons, h n (List.mem_cons_self ..), all_ints fun m hm => h m (List.mem_cons_of_mem _ hm)] <;> rfl
theorem no_zero : ∀ {ns : List Int}, (∀ n ∈ ns, 1 ≤ n) → inV (.int 0) (ns.map V.int) = false
  | [], _ => rfl
  | n :: r, h => by
    have e := no_zero (ns := r) fun m hm => h m (List.mem_cons_of_mem _ hm)
    have h1 := h n (List.mem_cons_self ..)
    unfold inV at e ⊢
    rw [List.map_cons, List.any_cons, e, Bool.or_false]
    exact decide_eq_false fun z => by omega
theorem blk_leaf {ns : List Int} (hl : ns.length ≤ 8) (h : ∀ n ∈ ns, 0 ≤ n ∧ n < 256) : blockN 0 ns = true := by
  unfold blockN
  rw [if_pos rfl]
  show (decide (((ns.map PyData.int).length : Int) ≤ 8) && (ns.map PyData.int).all (numTo 255)) = true
  rw [decide_eq_true (by rw [List.length_map]; omega), Bool.true_and]
  refine all_ints fun n hn => ?_
  have := h n hn
  unfold numTo
  simp
  omega
theorem blk_branch {ps : List Int} (h1 : 1 ≤ ps.length) (h4 : ps.length ≤ 4) (h : ∀ n ∈ ps, 1 ≤ n) : blockN 1 ps = true := by
  unfold blockN
  rw [if_neg (by decide), show linksN 1 ps = ps from rfl, no_zero h, if_neg Bool.false_ne_true, if_pos rfl, decide_eq_true (by omega), decide_eq_true (by omega)]
  rfl
theorem blk_file {m : Int} {ps : List Int} (hm : m ≤ 64) (hl : (ps.length : Int) = placesN m) (h : ∀ n ∈ ps, 1 ≤ n) : blockN 2 (m :: ps) = true := by
  unfold blockN
  rw [if_neg (by decide), show linksN 2 (m :: ps) = ps from rfl, no_zero h, if_neg Bool.false_ne_true, if_neg (by decide), if_pos rfl]
  show (decide (m ≤ 64) && decide (((ps.length : Nat) : Int) = placesN m)) = true
  rw [decide_eq_true hm, decide_eq_true hl]
  rfl
def inter : List Int → List Int → List Int
  | c :: cs, p :: ps => c :: p :: inter cs ps
  | _, _ => []
theorem alt_tail {α : Type} (p : α) (r : List α) : alt (p :: r) = p :: alt (r.drop 1) := by
  cases r <;> rfl
theorem inter_codes : ∀ {cs ps : List Int}, cs.length = ps.length → alt (inter cs ps) = cs
  | [], _, _ => by simp [inter, alt]
  | c :: cs, [], h => by simp at h
  | c :: cs, p :: ps, h => by
    show c :: alt (inter cs ps) = _
    rw [inter_codes (by simpa using h)]
theorem inter_places : ∀ {cs ps : List Int}, cs.length = ps.length → alt ((inter cs ps).drop 1) = ps
  | [], [], _ => by simp [inter, alt]
  | [], p :: ps, h => by simp at h
  | c :: cs, [], h => by simp at h
  | c :: cs, p :: ps, h => by
    show alt (p :: inter cs ps) = _
    rw [alt_tail, inter_places (by simpa using h)]
theorem inter_len : ∀ {cs ps : List Int}, cs.length = ps.length → (inter cs ps).length = 2 * cs.length
  | [], _, _ => by simp [inter]
  | c :: cs, [], h => by simp at h
  | c :: cs, p :: ps, h => by
    show (inter cs ps).length + 1 + 1 = 2 * (cs.length + 1)
    rw [inter_len (by simpa using h)]
    omega
theorem inter_snoc : ∀ {cs ps : List Int} {c p : Int}, cs.length = ps.length → inter (cs ++ [c]) (ps ++ [p]) = inter cs ps ++ [c, p]
  | [], [], c, p, _ => rfl
  | [], p :: ps, _, _, h => by simp at h
  | c :: cs, [], _, _, h => by simp at h
  | a :: cs, b :: ps, c, p, h => by
    show a :: b :: inter (cs ++ [c]) (ps ++ [p]) = a :: b :: (inter cs ps ++ [c, p])
    rw [inter_snoc (by simpa using h)]
theorem inter_mem : ∀ {cs ps : List Int} {n : Int}, n ∈ inter cs ps → n ∈ cs ∨ n ∈ ps
  | [], _, _, h => by simp [inter] at h
  | c :: cs, [], _, h => by simp [inter] at h
  | c :: cs, p :: ps, n, h => by
    rcases List.mem_cons.mp h with rfl | h
    · exact .inl (List.mem_cons_self ..)
    · rcases List.mem_cons.mp h with rfl | h
      · exact .inr (List.mem_cons_self ..)
      · rcases inter_mem h with h | h
        · exact .inl (List.mem_cons_of_mem _ h)
        · exact .inr (List.mem_cons_of_mem _ h)
theorem inc_of {ns : List Int} (h : ns.Pairwise (· < ·)) : incB ns = true := by
  unfold incB
  rw [List.all_eq_true]
  intro i hi
  have hi := List.mem_range.mp hi
  unfold incAt
  rw [List.getElem?_eq_getElem (show i < ns.length by omega), List.getElem?_eq_getElem (show i + 1 < ns.length by omega)]
  have := List.pairwise_iff_getElem.mp h i (i + 1) (by omega) (by omega) (by omega)
  exact decide_eq_true this
theorem blk_fold {cs ps : List Int} (he : cs.length = ps.length) (h8 : cs.length ≤ 8) (hc : ∀ c ∈ cs, okCode c = true) (hi : cs.Pairwise (· < ·)) (h : ∀ n ∈ ps, 1 ≤ n) : blockN 3 (inter cs ps) = true := by
  have e : linksN 3 (inter cs ps) = ps := inter_places he
  unfold blockN
  rw [if_neg (by decide), e, no_zero h, if_neg Bool.false_ne_true, if_neg (by decide), if_neg (by decide)]
  unfold foldN
  rw [e, inter_codes he, if_neg (by omega), inc_of hi, Bool.and_true, List.all_eq_true]
  exact hc
theorem ok_pos {c : Int} (h : okCode c = true) : 0 < c := by
  by_cases z : 0 < c ∧ c < 282429536481
  · exact z.1
  · have e : codeS (.int c) = none := if_neg z
    unfold okCode at h
    rw [e] at h
    cases h
theorem places_rg {n : Int} (h0 : 0 ≤ n) (h : n ≤ 64) : 0 ≤ placesN n ∧ placesN n ≤ 4 := by
  have key : ∀ k : Fin 65, 0 ≤ placesN ((k.val : Nat) : Int) ∧ placesN ((k.val : Nat) : Int) ≤ 4 := by decide +kernel
  have := key ⟨n.toNat, by omega⟩
  rw [show (((⟨n.toNat, by omega⟩ : Fin 65).val : Nat) : Int) = n from (by show ((n.toNat : Nat) : Int) = n; omega)] at this
  exact this
def spLBlock (K : PySem.W.Frag) (tb : List Addr) : Sp := fun vs H Q _ => ∃ (d : Addr) (ds : List Int) (k : Int), vs = [.ref d, .int k] ∧ 0 ≤ k ∧ k < 4 ∧ H d = some (.lst (ds.map V.int)) ∧ Dr ds ∧ Tabs tb H ∧
  ∀ (p : Addr) (r es : List Int) (H' : Hp), Ext tb [d] H H' → H' d = some (.lst (es.map V.int)) → Dr es → SqT K H' p ((k :: r).map V.int) → blockN k r = true → (∀ n ∈ r, 0 ≤ n) → r.length ≤ 16 → Q (.ref p) H'
theorem ok_l_block {tb : List Addr} (T : Txt K mg) (F : FnAt K mg "_law_block" s_l_block ["_law_drawn", "_law_way"] f cd) (C_l_next : CalE P w K mg base CX0 1 "_law_next" (spNext tb)) (C_l_places : CalE P w K mg base CX0 2 "_law_places" (spLPlaces tb)) (C_l_tops : CalE P w K mg base CX0 1 "_law_tops" spTops) (C_l_code : CalE P w K mg base CX0 1 "_law_code" spLCode) : CalE P w K mg base CX0 3 "_law_block" (spLBlock K tb) := by
  refine F.cal sc_l_block (fun vs H Q E h => ?_) (fun A outer s H vs Q E hr h => ?_)
  · obtain ⟨d, ds, k, rfl, _⟩ := h
    rfl
  · obtain ⟨d, ds, k, rfl, hk0, hk4, hd, hD, hT, q⟩ := h
    refine ⟨_, (pss_cons (ps_set (i := 2) sc_l_block.nd rfl (.inr rfl) (pe_cal C_l_next (hr.mono (by first | decide | omega)) (by rfl) (pa_cons (pv 0) pa_nil)))
      (pss_cons (ps_if (pt_cmpR op_eq (pv 1) pe_int (nomark _)) (pss_one (ps_ret (pe_op (q_catT (K := K) rfl) (pe_tup (pa_cons pe_int pa_nil)) (pe_callTy (q_tup (K := K) rfl) (by rfl) T.b_tuple (by decide +kernel) (pa_cons (pe_lc (own := [("_law_k", 8)]) (g := gName 8) (tt := tYes) (by rfl) sc_l_block.nd (pi_range1 (by rfl) T.b_range (pa_cons (pe_op op_mod (pv 2) pe_int) pa_nil)) (blkOk_by (own := [("_law_k", 8)]) (N := n_l_block) (sc := defScope s_l_block) (by decide +kernel)) (fun _ _ _ _ _ => (pg_name (i := 8) sc_l_block.nd rfl (.inl rfl))) (fun _ _ _ _ _ => pts_nil) (fun _ _ _ _ _ => (pe_op op_mod (pe_op op_add (pe_op op_fdiv (pv 2) pe_int) (pe_op op_mul (pe_op op_mul (pv 8) (pv 8)) (pv 2))) pe_int))) pa_nil))))) pss_nil)
      (pss_cons (ps_if (pt_cmpR op_eq (pv 1) pe_int (nomark _)) (pss_one (ps_ret (pe_op (q_catT (K := K) rfl) (pe_tup (pa_cons pe_int pa_nil)) (pe_cal C_l_places (hr.mono (by first | decide | omega)) (by rfl) (pa_cons (pv 0) (pa_cons (pe_op op_add pe_int (pe_op op_mod (pv 2) pe_int)) pa_nil)))))) pss_nil)
      (pss_cons (ps_if (pt_cmpR op_eq (pv 1) pe_int (nomark _)) (pss_one (ps_ret (pe_op (q_catT (K := K) rfl) (pe_tup (pa_cons pe_int (pa_cons (pe_op op_mod (pv 2) pe_int) pa_nil))) (pe_cal C_l_places (hr.mono (by first | decide | omega)) (by rfl) (pa_cons (pv 0) (pa_cons (pe_cal C_l_tops (hr.mono (by first | decide | omega)) (by rfl) (pa_cons (pe_op op_mod (pv 2) pe_int) pa_nil)) pa_nil)))))) pss_nil)
      (pss_cons (ps_set (i := 3) sc_l_block.nd rfl (.inl rfl) (pe_callB (SR.q_sortedSet (w := w) rfl rfl) (by rfl) T.b_sorted (by decide +kernel) (pa_cons (pe_callTy (SR.q_setI (K := K) (w := w) rfl rfl rfl) (by rfl) T.b_set (by decide +kernel) (pa_cons (pe_lc (own := [("_law_k", 8)]) (g := gName 8) (tt := tYes) (by rfl) sc_l_block.nd (pi_range1 (by rfl) T.b_range (pa_cons (pe_op op_mod (pv 2) pe_int) pa_nil)) (blkOk_by (own := [("_law_k", 8)]) (N := n_l_block) (sc := defScope s_l_block) (by decide +kernel)) (fun _ _ _ _ _ => (pg_name (i := 8) sc_l_block.nd rfl (.inl rfl))) (fun _ _ _ _ _ => pts_nil) (fun _ _ _ _ _ => (pe_cal C_l_code (hr.mono (by first | decide | omega)) (by rfl) (pa_cons (pe_op op_add (pe_op op_fdiv (pv 2) pe_int) (pe_cal C_l_next (hr.mono (by first | decide | omega)) (by rfl) (pa_cons (pv 0) pa_nil))) pa_nil)))) pa_nil)) pa_nil)))
      (pss_cons (ps_set (i := 4) sc_l_block.nd rfl (.inl rfl) (pe_cal C_l_places (hr.mono (by first | decide | omega)) (by rfl) (pa_cons (pv 0) (pa_cons (pe_callB (q_len (K := K) rfl) (by rfl) T.b_len PySem.boot_len (pa_cons (pv 3) pa_nil)) pa_nil))))
      (pss_cons (ps_set (i := 5) sc_l_block.nd rfl (.inl rfl) (pe_tup (pa_cons pe_int pa_nil)))
      (pss_cons (ps_for PassesOwn.never rfl (ZM.q_zipM (K := K) rfl (by rfl) T.b_zip (pa_cons (pv 3) (pa_cons (pv 4) pa_nil))) (RJ.q_pgT (K := K) (n := 2) rfl rfl (pgs_cons (pg_name (i := 6) sc_l_block.nd rfl (.inl rfl)) (pgs_cons (pg_name (i := 7) sc_l_block.nd rfl (.inl rfl)) pgs_nil))) (pss_one (ps_set (i := 5) sc_l_block.nd rfl (.inl rfl) (pe_op (q_catT (K := K) rfl) (pv 5) (pe_tup (pa_cons (pv 6) (pa_cons (pv 7) pa_nil)))))))
      (pss_one (ps_ret (pv 5))))))))))), ?_⟩
    refine ⟨_, rfl, d, ds, rfl, hd, hD, hT, fun x ds1 H1 hx hD1 ex1 hd1 => ?_⟩
    have hT1 := ex1.tabs hT
    refine ⟨_, rfl, rfl, _, rfl, ?_⟩
    by_cases z0 : k = 0
    · subst z0
      refine iteT ?_
      have b9 := mod_rg x 9 (by decide)
      refine ⟨by show 1 ≤ sizeLine; decide, fun t nt => ?_⟩
      have ntd : t ≠ d := fun z => by rw [z, hd1] at nt; cases nt
      have ex2 : Ext tb [d] H (upd H1 t (.tup [.int 0])) := ex1.trans (Ext.new hT1 nt)
      refine ⟨_, rfl, _, _, rfl, rfl, (by show (0:Int) < 9; decide), _, rfl, by omega, by omega, fun D hDn => ?_⟩
      have hDn : (upd H1 t (.tup [.int 0])) D = none := hDn
      have nDt : D ≠ t := fun z => by rw [z, upd_same] at hDn; cases hDn
      have nDd : D ≠ d := fun z => by rw [z, upd_ne (Ne.symm ntd), hd1] at hDn; cases hDn
      have hDn0 : H D = none := ex2.free hT hDn (by simp [nDd])
      refine lc_range (lo := 0) (n := (x % 9).toNat) (fun i H2 => ∃ ns : List Int, ns.length = i ∧ (∀ n ∈ ns, 0 ≤ n ∧ n < 256) ∧ H2 d = some (.lst (ds1.map V.int)) ∧ H2 t = some (.tup [.int 0]) ∧ H2 D = some (.lst (ns.map V.int)) ∧ Ext tb [d] H H2) ?_ ?_ ?_
      · exact ⟨[], rfl, fun s hs => (by cases hs), by rw [upd_ne (Ne.symm nDd), upd_ne (Ne.symm ntd)]; exact hd1, by rw [upd_ne (Ne.symm nDt), upd_same], upd_same, Ext.own hT ex2 hDn0⟩
      · rintro i H2 hi ⟨ns, hl2, hm2, hd2, ht2, hDD2, ex3⟩
        refine ⟨rfl, _, rfl, _, _, rfl, rfl, ⟨by decide, by decide⟩, _, rfl, _, rfl, _, _, rfl, rfl, .inl ⟨by omega, by omega⟩, _, rfl, _, _, rfl, rfl, .inl ?_, _, _, rfl, rfl, _, _, rfl, rfl, (by show (0:Int) < 256; decide), ?_⟩
        · have : (0 + (i : Int)) * (0 + (i : Int)) ≤ 9 * 9 := Int.mul_le_mul (by omega) (by omega) (by omega) (by omega)
          have : 0 ≤ (0 + (i : Int)) * (0 + (i : Int)) := Int.mul_nonneg (by omega) (by omega)
          exact ⟨by omega, by omega⟩
        · generalize hv : (x / 9 + (0 + (i : Int)) * (0 + (i : Int)) * x) % 256 = v
          have bv : 0 ≤ v ∧ v < 256 := hv ▸ mod_rg _ 256 (by decide)
          refine ⟨_, hDD2, line_lt (by rw [List.length_map]; omega), ns ++ [v], by rw [List.length_append, hl2] <;> rfl, fun s hs => ?_, by rw [upd_ne (Ne.symm nDd)]; exact hd2, by rw [upd_ne (Ne.symm nDt)]; exact ht2, by rw [upd_same, map_snoc, ← hv], Ext.own hT ex3 hDn0⟩
          rcases List.mem_append.mp hs with h1 | h1
          · exact hm2 s h1
          · rw [List.mem_singleton.mp h1]
            exact bv
      · rintro H2 ⟨ns, hl2, hm2, hd2, ht2, hDD2, ex3⟩
        refine ⟨D, _, rfl, .inl ⟨SqL.of hDD2, fun l hl => ?_⟩⟩
        have hT3 := ex3.tabs hT
        have e4 : Ext tb [] H2 (upd H2 l (.tup (ns.map V.int))) := Ext.new hT3 hl
        refine cat_rd (e4.tabs hT3) (e4.sqT hT3 (SqT.of ht2) (by simp)) (SqT.of upd_same) (by rw [List.length_map]; show 1 + ns.length ≤ _; omega) fun p H' e5 hp => ?_
        have e25 := e4.trans e5
        exact q p ns ds1 H' (ex3.trans e25.of0) (e25.lst hT3 hd2 (by simp)) hD1 hp (blk_leaf (by omega) hm2) (fun n hn => (hm2 n hn).1) (by omega)
    rw [decide_eq_false (fun z : V.int k = V.int 0 => z0 (V.int.inj z))]
    refine iteF ?_
    refine ⟨_, rfl, rfl, _, rfl, ?_⟩
    by_cases z1 : k = 1
    · subst z1
      refine iteT ?_
      have b4 := mod_rg x 4 (by decide)
      refine ⟨by show 1 ≤ sizeLine; decide, fun t nt => ?_⟩
      have ntd : t ≠ d := fun z => by rw [z, hd1] at nt; cases nt
      have ex2 : Ext tb [d] H (upd H1 t (.tup [.int 1])) := ex1.trans (Ext.new hT1 nt)
      have hT2 := ex2.tabs hT
      refine ⟨_, rfl, _, rfl, _, _, rfl, rfl, (by show (0:Int) < 4; decide), _, _, rfl, rfl, d, ds1, _, rfl, by omega, by omega, by rw [upd_ne (Ne.symm ntd)]; exact hd1, hD1, hT2, fun ps ds2 pp H3 hpl hp1 hD2 ex3 hd3 hpp => ?_⟩
      have hT3 := ex3.tabs hT2
      refine cat_rd hT3 (ex3.sqT hT2 (SqT.of upd_same) (by simp [ntd])) (SqT.of hpp) (by rw [List.length_map]; show 1 + ps.length ≤ _; omega) fun p H' e5 hp => ?_
      exact q p ps ds2 H' ((ex2.trans ex3).trans e5.of0) (e5.lst hT3 hd3 (by simp)) hD2 hp (blk_branch (by omega) (by omega) hp1) (fun n hn => by have := hp1 n hn; omega) (by omega)
    rw [decide_eq_false (fun z : V.int k = V.int 1 => z1 (V.int.inj z))]
    refine iteF ?_
    refine ⟨_, rfl, rfl, _, rfl, ?_⟩
    by_cases z2 : k = 2
    · subst z2
      refine iteT ?_
      have b65 := mod_rg x 65 (by decide)
      have bp := places_rg b65.1 (show x % 65 ≤ 64 by omega)
      refine ⟨_, rfl, _, _, rfl, rfl, (by show (0:Int) < 65; decide), by show 2 ≤ sizeLine; decide, fun t nt => ?_⟩
      have ntd : t ≠ d := fun z => by rw [z, hd1] at nt; cases nt
      have ex2 : Ext tb [d] H (upd H1 t (.tup [.int 2, .int (x % 65)])) := ex1.trans (Ext.new hT1 nt)
      have hT2 := ex2.tabs hT
      refine ⟨_, rfl, _, rfl, _, _, rfl, rfl, (by show (0:Int) < 65; decide), _, rfl, b65.1, by omega, d, ds1, _, rfl, bp.1, by omega, by rw [upd_ne (Ne.symm ntd)]; exact hd1, hD1, hT2, fun ps ds2 pp H3 hpl hp1 hD2 ex3 hd3 hpp => ?_⟩
      have hT3 := ex3.tabs hT2
      refine cat_rd hT3 (ex3.sqT hT2 (SqT.of upd_same) (by simp [ntd])) (SqT.of hpp) (by rw [List.length_map]; show 2 + ps.length ≤ _; omega) fun p H' e5 hp => ?_
      refine q p (x % 65 :: ps) ds2 H' ((ex2.trans ex3).trans e5.of0) (e5.lst hT3 hd3 (by simp)) hD2 hp (blk_file (by omega) (by omega) hp1) (fun n hn => ?_) (by rw [List.length_cons]; omega)
      rcases List.mem_cons.mp hn with rfl | hn
      · exact b65.1
      · have := hp1 n hn
        omega
    rw [decide_eq_false (fun z : V.int k = V.int 2 => z2 (V.int.inj z))]
    refine iteF ?_
    obtain rfl : k = 3 := by omega
    have b9 := mod_rg x 9 (by decide)
    refine ⟨_, rfl, _, _, rfl, rfl, (by show (0:Int) < 9; decide), _, rfl, by omega, by omega, fun D hDn => ?_⟩
    have hDn : H1 D = none := hDn
    have nDd : D ≠ d := fun z => by rw [z, hd1] at hDn; cases hDn
    have hDn0 : H D = none := ex1.free hT hDn (by simp [nDd])
    refine lc_range (lo := 0) (n := (x % 9).toNat) (fun i H2 => ∃ ns es : List Int, ns.length = i ∧ (∀ n ∈ ns, okCode n = true) ∧ Dr es ∧ H2 d = some (.lst (es.map V.int)) ∧ H2 D = some (.lst (ns.map V.int)) ∧ Ext tb [d] H H2) ?_ ?_ ?_
    · exact ⟨[], ds1, rfl, fun s hs => (by cases hs), hD1, by rw [upd_ne (Ne.symm nDd)]; exact hd1, upd_same, Ext.own hT ex1 hDn0⟩
    · rintro i H2 hi ⟨ns, es, hl2, hm2, hDe, hd2, hDD2, ex3⟩
      refine ⟨rfl, _, rfl, _, _, rfl, rfl, ⟨by decide, by decide⟩, _, rfl, d, es, rfl, hd2, hDe, ex3.tabs hT, fun y es' H3 hy hDe' ex4 hd3 => ?_⟩
      refine ⟨_, _, rfl, rfl, _, rfl, fun c hc => ?_⟩
      refine ⟨_, ex4.lst (ex3.tabs hT) hDD2 (by simp [nDd]), line_lt (by rw [List.length_map]; omega), ns ++ [c], es', by rw [List.length_append, hl2] <;> rfl, fun s hs => ?_, hDe', by rw [upd_ne (Ne.symm nDd)]; exact hd3, by rw [upd_same, map_snoc], Ext.own hT (ex3.trans ex4) hDn0⟩
      rcases List.mem_append.mp hs with h1 | h1
      · exact hm2 s h1
      · rw [List.mem_singleton.mp h1]
        exact hc
    · rintro H2 ⟨ns, es, hl2, hm2, hDe, hd2, hDD2, ex3⟩
      have hT3 := ex3.tabs hT
      refine ⟨D, ns, rfl, SqL.of hDD2, by omega, fun S n hS hn => ?_⟩
      have e4 : Ext tb [] H2 (upd H2 S (SetO w S (fun j => decide (j ∈ ns)) n)) := Ext.new hT3 hS
      have hT4 := e4.tabs hT3
      refine ⟨S, _, n, rfl, upd_same, by omega, fun cs L hcs hmem hlen hL => ?_⟩
      have e5 : Ext tb [] H2 (upd (upd H2 S (SetO w S (fun j => decide (j ∈ ns)) n)) L (.lst (cs.map V.int))) := e4.trans (Ext.new hT4 hL)
      have hT5 := e5.tabs hT3
      have hd5 := e5.lst hT3 hd2 (by simp)
      have hL5 : (upd (upd H2 S (SetO w S (fun j => decide (j ∈ ns)) n)) L (.lst (cs.map V.int))) L = some (.lst (cs.map V.int)) := upd_same
      have nLd : L ≠ d := fun z => by
        have := e4.lst hT3 hd2 (by simp)
        rw [z, this] at hL
        cases hL
      have ok : ∀ c ∈ cs, okCode c = true := fun c hc => hm2 c (of_decide_eq_true ((hmem c).mp hc))
      generalize upd (upd H2 S (SetO w S (fun j => decide (j ∈ ns)) n)) L (.lst (cs.map V.int)) = H5 at e5 hT5 hd5 hL5 ⊢
      refine ⟨_, rfl, _, rfl, _, _, rfl, .inl ⟨_, SqL.of hL5, rfl⟩, d, es, _, rfl, by omega, by rw [List.length_map]; omega, hd5, hDe, hT5, fun ps es2 pp H6 hpl hp1 hD2 ex6 hd6 hpp => ?_⟩
      have hT6 := ex6.tabs hT5
      have hL6 := ex6.lst hT5 hL5 (by simp [nLd])
      refine ⟨by show 1 ≤ sizeLine; decide, fun t nt => ?_⟩
      have e7 : Ext tb [] H6 (upd H6 t (.tup [.int 3])) := Ext.new hT6 nt
      have x7 : Ext tb [d] H (upd H6 t (.tup [.int 3])) := ((ex3.trans e5.of0).trans ex6).trans e7.of0
      have hce : cs.length = ps.length := by rw [hpl, List.length_map]; omega
      refine ⟨_, rfl, _, rfl, L, pp, cs.map V.int, ps.map V.int, rfl, SqL.of (e7.lst hT6 hL6 (by simp)), SqT.of (e7.tup hT6 hpp (by simp)), ?_⟩
      refine ZM.for_zipM (xs := cs.map V.int) (ys := ps.map V.int) (by rw [List.length_map, List.length_map, hce]) (fun i σ H' => ∃ (p : Addr) (y6 y7 y8 : Option V), σ = [some (.ref d), some (.int 3), some (.int x), some (.ref L), some (.ref pp), some (.ref p), y6, y7, y8] ∧ Ext tb [d] H H' ∧
        H' d = some (.lst (es2.map V.int)) ∧ H' L = some (.lst (cs.map V.int)) ∧ H' pp = some (.tup (ps.map V.int)) ∧ SqT K H' p ((3 :: inter (cs.take i) (ps.take i)).map V.int)) ?_ ?_ ?_ ?_
      · exact ⟨t, _, _, _, rfl, x7, e7.lst hT6 hd6 (by simp), e7.lst hT6 hL6 (by simp), e7.tup hT6 hpp (by simp), SqT.of upd_same⟩
      · rintro i σ H' ⟨p, y6, y7, y8, rfl, e, _, h2, h3, _⟩
        exact ⟨SqL.of h2, SqT.of h3⟩
      · rintro i u v T' σ H' hu hv ⟨p, y6, y7, y8, rfl, e, h1, h2, h3, h4⟩ hT'
        have hTx := e.tabs hT
        have f1 : Ext tb [] H' (upd H' T' (.tup [u, v])) := Ext.new hTx hT'
        have hTy := f1.tabs hTx
        refine ⟨T', _, rfl, SqT.of upd_same, rfl, ?_⟩
        refine ⟨_, _, rfl, _, _, rfl, rfl, ?_⟩
        refine ⟨_, rfl, _, rfl, _, rfl, by show 2 ≤ sizeLine; decide, fun t2 nt2 => ?_⟩
        have f2 : Ext tb [] H' (upd (upd H' T' (.tup [u, v])) t2 (.tup [u, v])) := f1.trans (Ext.new hTy nt2)
        have hTz := f2.tabs hTx
        have il : i < cs.length := by
          have := (List.getElem?_eq_some_iff.mp hu).1
          rwa [List.length_map] at this
        refine cat_rd hTz (f2.sqT hTx h4 (by simp)) (SqT.of upd_same) ?_ fun p2 H2' f3 hp2 => ?_
        · rw [List.length_map, List.length_cons, inter_len (by rw [List.length_take, List.length_take, hce]), List.length_take]
          show _ + 2 ≤ _
          omega
        · have f := f2.trans f3
          refine ⟨p2, _, _, _, rfl, e.trans f.of0, f.lst hTx h1 (by simp), f.lst hTx h2 (by simp), f.tup hTx h3 (by simp), ?_⟩
          rw [List.getElem?_map] at hu hv
          obtain ⟨c, hc, rfl⟩ := Option.map_eq_some_iff.mp hu
          obtain ⟨b, hb, rfl⟩ := Option.map_eq_some_iff.mp hv
          rw [List.take_add_one, List.take_add_one, hc, hb]
          show SqT K H2' p2 ((3 :: inter (cs.take i ++ [c]) (ps.take i ++ [b])).map V.int)
          rw [inter_snoc (by rw [List.length_take, List.length_take, hce]), ← List.cons_append, List.map_append]
          exact hp2
      · rintro σ H' ⟨p, y6, y7, y8, rfl, e, h1, h2, h3, h4⟩
        rw [List.length_map, List.take_length, hce, List.take_length] at h4
        refine ⟨_, rfl, q p _ es2 H' e h1 hD2 h4 (blk_fold hce (by omega) ok hcs hp1) (fun m hm => ?_) ?_⟩
        · rcases inter_mem hm with hm | hm
          · exact Int.le_of_lt (ok_pos (ok m hm))
          · have := hp1 m hm
            omega
        · rw [inter_len hce]
          omega

end
end K18

set_option Elab.async false
set_option linter.all false
set_option maxRecDepth 100000
set_option maxHeartbeats 1000000
namespace K18
open PySem PySem.Spec PyProof.Rows L2 HK DT
section
variable {P : Program} {w : World} {K : PySem.W.Frag} {mg : Str → Option Value} {base : Heap} {f : Addr} {cd : Value}
/-! ### _law_same of one data: True -/
mutual
def nb : PyData → Bool
  | .none => true
  | .bool _ => false
  | .int _ => true
  | .str _ => true
  | .list ds => nbAll ds
  | .tuple ds => nbAll ds
  | .dict _ => false
def nbAll : List PyData → Bool
  | [] => true
  | d :: ds => nb d && nbAll ds
end
theorem nb_get : ∀ {ds : List PyData} {i : Nat} {d : PyData}, nbAll ds = true → ds[i]? = some d → nb d = true
  | [], _, _, _, e => by simp at e
  | x :: r, 0, d, h, e => by
    simp at e
    subst e
    exact (Bool.and_eq_true_iff.mp (show (nb x && nbAll r) = true from h)).1
  | x :: r, i + 1, d, h, e => nb_get (ds := r) (i := i) (Bool.and_eq_true_iff.mp (show (nb x && nbAll r) = true from h)).2 (by simpa using e)
theorem dep_get : ∀ {ds : List PyData} {i : Nat} {d : PyData}, ds[i]? = some d → PyData.depth d ≤ PyData.depthAll ds
  | [], _, _, e => by simp at e
  | x :: r, 0, d, e => by
    simp at e
    subst e
    exact Nat.le_max_left _ _
  | x :: r, i + 1, d, e => Nat.le_trans (dep_get (ds := r) (i := i) (by simpa using e)) (Nat.le_max_right _ _)
def spSame (K : PySem.W.Frag) (tb : List Addr) (n : Nat) : Sp := fun vs H Q _ => ∃ (v u : V) (d : PyData), vs = [v, u] ∧ Dp K H v d ∧ Dp K H u d ∧ nb d = true ∧ PyData.depth d ≤ n ∧ Tabs tb H ∧ ∀ H', Ext tb [] H H' → Q (.bl true) H'
def spAllSame (K : PySem.W.Frag) (tb : List Addr) (n : Nat) : Sp := fun vs H Q _ => ∃ (a b : Addr) (xs ys : List V) (ds : List PyData), vs = [.ref a, .ref b] ∧ SqL K H a xs ∧ SqL K H b ys ∧ DpAll K H xs ds ∧ DpAll K H ys ds ∧ nbAll ds = true ∧ PyData.depthAll ds ≤ n ∧ Tabs tb H ∧ ∀ H', Ext tb [] H H' → Q (.bl true) H'
def spNever : Sp := fun _ _ _ _ => False
def spAllO (K : PySem.W.Frag) (tb : List Addr) : Nat → Sp
  | 0 => spNever
  | n + 1 => spAllSame K tb n
theorem ok_l_same {n : Nat} {tb : List Addr} (T : Txt K mg) (F : FnAt K mg "_law_same" s_l_same ["_law_found", "_law_due"] f cd) (C_l_all_same : CalE P w K mg base CX0 (2*n+1) "_law_all_same" (spAllO K tb n)) : CalE P w K mg base CX0 (2*n+1+1) "_law_same" (spSame K tb n) := by
  refine F.cal sc_l_same (fun vs H Q E h => ?_) (fun A outer s H vs Q E hr h => ?_)
  · obtain ⟨v, u, d, rfl, _⟩ := h
    rfl
  · obtain ⟨v, u, d, rfl, hv, hu, hn, hd, hT, q⟩ := h
    refine ⟨_, (pss_cons (ps_if (pt_val (pe_callB (q_isi (K := K) rfl) (by rfl) T.b_isinstance (by decide +kernel) (pa_cons (pv 1) (pa_cons (pe_bltn (v := .ty "tuple") (by rfl) T.b_tuple (by decide +kernel) rfl) pa_nil)))) (pss_cons (ps_if (PW.pt (pw_or (pt_not (pt_val (pe_callB (q_isi (K := K) rfl) (by rfl) T.b_isinstance (by decide +kernel) (pa_cons (pv 0) (pa_cons (pe_bltn (v := .ty "tuple") (by rfl) T.b_tuple (by decide +kernel) rfl) pa_nil))))) (pw_or1 (pt_cmpR op_ne (pe_callB (q_len (K := K) rfl) (by rfl) T.b_len PySem.boot_len (pa_cons (pv 0) pa_nil)) (pe_callB (q_len (K := K) rfl) (by rfl) T.b_len PySem.boot_len (pa_cons (pv 1) pa_nil)) (nomark _))))) (pss_one (ps_ret pe_bl)) pss_nil)
      (pss_one (ps_ret (pe_cal C_l_all_same (hr.mono (by first | decide | omega)) (by rfl) (pa_cons (pe_callTy (q_lst (K := K) rfl) (by rfl) T.b_list (by decide +kernel) (pa_cons (pv 0) pa_nil)) (pa_cons (pe_callTy (q_lst (K := K) rfl) (by rfl) T.b_list (by decide +kernel) (pa_cons (pv 1) pa_nil)) pa_nil)))))) pss_nil)
      (pss_cons (ps_if (pt_val (pe_callB (q_isi (K := K) rfl) (by rfl) T.b_isinstance (by decide +kernel) (pa_cons (pv 1) (pa_cons (pe_bltn (v := .ty "list") (by rfl) T.b_list (by decide +kernel) rfl) pa_nil)))) (pss_one (ps_ret (pe_and (pe_callB (q_isi (K := K) rfl) (by rfl) T.b_isinstance (by decide +kernel) (pa_cons (pv 0) (pa_cons (pe_bltn (v := .ty "list") (by rfl) T.b_list (by decide +kernel) rfl) pa_nil))) (pe_and (pe_cmpR op_eq (pe_callB (q_len (K := K) rfl) (by rfl) T.b_len PySem.boot_len (pa_cons (pv 0) pa_nil)) (pe_callB (q_len (K := K) rfl) (by rfl) T.b_len PySem.boot_len (pa_cons (pv 1) pa_nil)) (nomark _)) (pe_one (pe_cal C_l_all_same (hr.mono (by first | decide | omega)) (by rfl) (pa_cons (pv 0) (pa_cons (pv 1) pa_nil)))))))) pss_nil)
      (pss_cons (ps_if (pt_val (pe_callB (q_isi (K := K) rfl) (by rfl) T.b_isinstance (by decide +kernel) (pa_cons (pv 1) (pa_cons (pe_bltn (v := .ty "str") (by rfl) T.b_str (by decide +kernel) rfl) pa_nil)))) (pss_one (ps_ret (pe_and (pe_callB (q_isi (K := K) rfl) (by rfl) T.b_isinstance (by decide +kernel) (pa_cons (pv 0) (pa_cons (pe_bltn (v := .ty "str") (by rfl) T.b_str (by decide +kernel) rfl) pa_nil))) (pe_one (pe_cmpR op_eq (pv 0) (pv 1) (nomark _)))))) pss_nil)
      (pss_cons (ps_if (pt_cmpR op_isN (pv 1) pe_non (nomark _)) (pss_one (ps_ret (pe_cmpR op_isN (pv 0) pe_non (nomark _)))) pss_nil)
      (pss_one (ps_ret (pe_and (pe_callB (q_isi (K := K) rfl) (by rfl) T.b_isinstance (by decide +kernel) (pa_cons (pv 0) (pa_cons (pe_bltn (v := .ty "int") (by rfl) T.b_int (by decide +kernel) rfl) pa_nil))) (pe_and (pe_not (pe_callB (q_isi (K := K) rfl) (by rfl) T.b_isinstance (by decide +kernel) (pa_cons (pv 0) (pa_cons (pe_bltn (v := .ty "bool") (by rfl) T.b_bool (by decide +kernel) rfl) pa_nil)))) (pe_one (pe_cmpR op_eq (pv 0) (pv 1) (nomark _))))))))))), ?_⟩
    have tv := Dp_ty hv
    have tu := Dp_ty hu
    refine ⟨_, rfl, _, _, .type (tyN d), _, _, rfl, .ty _, tu, kit_ty (kit_tup d), _, rfl, ?_⟩
    cases d with
    | tuple ds =>
      cases n with
      | zero => exact absurd hd (Nat.not_succ_le_zero _)
      | succ n =>
        cases hv with
        | @tup a xs _ ha hxs =>
        cases hu with
        | @tup b ys _ hb hys =>
        refine iteT ?_
        refine ⟨_, rfl, _, _, .type "tuple", _, true, rfl, .ty _, tv, kit_ty (by decide +kernel), true, rfl, iteF ?_⟩
        have hl : xs.length = ys.length := (DpAll_len hxs).trans (DpAll_len hys).symm
        refine ⟨_, rfl, _, _, rfl, .inr ⟨_, ha, rfl⟩, _, rfl, _, _, rfl, .inr ⟨_, hb, rfl⟩, rfl, _, rfl, iteNS (by rw [hl]) ?_⟩
        refine ⟨_, rfl, a, xs, rfl, .inr ha, fun l1 n1 => ?_⟩
        have e1 : Ext tb [] H (upd H l1 (.lst xs)) := Ext.new hT n1
        have hT1 := e1.tabs hT
        refine ⟨_, rfl, b, ys, rfl, .inr (e1.sqT hT hb (by simp)), fun l2 n2 => ?_⟩
        have e2 : Ext tb [] (upd H l1 (.lst xs)) (upd (upd H l1 (.lst xs)) l2 (.lst ys)) := Ext.new hT1 n2
        exact ⟨l1, l2, xs, ys, ds, rfl, e2.sqL hT1 (SqL.of upd_same) (by simp), SqL.of upd_same, DpAll_ext (e1.trans e2) hT ds hxs, DpAll_ext (e1.trans e2) hT ds hys, hn, Nat.le_of_succ_le_succ hd, (e1.trans e2).tabs hT, fun H' e' => q H' ((e1.trans e2).trans e')⟩
    | list ds =>
      cases n with
      | zero => exact absurd hd (Nat.not_succ_le_zero _)
      | succ n =>
        cases hv with
        | @lst a xs _ ha hxs =>
        cases hu with
        | @lst b ys _ hb hys =>
        refine iteF ?_
        refine ⟨_, rfl, _, _, .type "list", _, true, rfl, .ty _, tu, kit_ty (by decide +kernel), _, rfl, iteT ?_⟩
        refine ⟨_, rfl, _, _, .type "list", _, true, rfl, .ty _, tv, kit_ty (by decide +kernel), true, rfl, iteT ?_⟩
        have hl : xs.length = ys.length := (DpAll_len hxs).trans (DpAll_len hys).symm
        refine ⟨_, rfl, _, _, rfl, .inl ⟨_, ha, rfl⟩, _, rfl, _, _, rfl, .inl ⟨_, hb, rfl⟩, rfl, _, rfl, ?_⟩
        rw [hl, decide_eq_true rfl]
        refine iteT ?_
        exact ⟨_, rfl, _, rfl, a, b, xs, ys, ds, rfl, ha, hb, hxs, hys, hn, Nat.le_of_succ_le_succ hd, hT, q⟩
    | str z =>
      cases hv
      cases hu
      refine iteF ?_
      refine ⟨_, rfl, _, _, .type "str", _, false, rfl, .ty _, tu, kit_ty (by decide +kernel), _, rfl, iteF ?_⟩
      refine ⟨_, rfl, _, _, .type "str", _, true, rfl, .ty _, tu, kit_ty (by decide +kernel), _, rfl, iteT ?_⟩
      refine ⟨_, rfl, _, _, .type "str", _, true, rfl, .ty _, tv, kit_ty (by decide +kernel), true, rfl, iteT ?_⟩
      refine ⟨_, rfl, _, rfl, rfl, ?_⟩
      rw [decide_eq_true rfl]
      exact q H Ext.refl
    | none =>
      cases hv
      cases hu
      refine iteF ?_
      refine ⟨_, rfl, _, _, .type "NoneType", _, false, rfl, .ty _, tu, kit_ty (by decide +kernel), _, rfl, iteF ?_⟩
      refine ⟨_, rfl, _, _, .type "NoneType", _, false, rfl, .ty _, tu, kit_ty (by decide +kernel), _, rfl, iteF ?_⟩
      refine ⟨_, rfl, rfl, _, rfl, iteT ?_⟩
      exact ⟨_, rfl, rfl, q H Ext.refl⟩
    | int i =>
      cases hv
      cases hu
      refine iteF ?_
      refine ⟨_, rfl, _, _, .type "int", _, false, rfl, .ty _, tu, kit_ty (by decide +kernel), _, rfl, iteF ?_⟩
      refine ⟨_, rfl, _, _, .type "int", _, false, rfl, .ty _, tu, kit_ty (by decide +kernel), _, rfl, iteF ?_⟩
      refine ⟨_, rfl, rfl, _, rfl, iteF ?_⟩
      refine ⟨_, rfl, _, _, .type "int", _, true, rfl, .ty _, tv, kit_ty (by decide +kernel), true, rfl, iteT ?_⟩
      refine ⟨_, rfl, _, _, .type "int", _, false, rfl, .ty _, tv, kit_ty (by decide +kernel), false, rfl, true, rfl, iteT ?_⟩
      refine ⟨_, rfl, _, rfl, rfl, ?_⟩
      rw [decide_eq_true rfl]
      exact q H Ext.refl
    | bool b => cases hn
    | dict kvs => cases hn
theorem ok_l_all_same {n : Nat} {tb : List Addr} (T : Txt K mg) (F : FnAt K mg "_law_all_same" s_l_all_same ["_law_found", "_law_due"] f cd) (C_l_same : CalE P w K mg base CX0 (2*n+1+1) "_law_same" (spSame K tb n)) : CalE P w K mg base CX0 (2*n+1+1+1) "_law_all_same" (spAllSame K tb n) := by
  refine F.cal sc_l_all_same (fun vs H Q E h => ?_) (fun A outer s H vs Q E hr h => ?_)
  · obtain ⟨a, b, xs, ys, ds, rfl, _⟩ := h
    rfl
  · obtain ⟨a, b, xs, ys, ds, rfl, ha, hb, hxs, hys, hn, hd, hT, q⟩ := h
    refine ⟨_, (pss_cons (ps_for PassesOwn.never rfl (pi_zip (by rfl) T.b_zip (pa_cons (pv 0) (pa_cons (pv 1) pa_nil))) (RJ.q_pgT (K := K) (n := 2) rfl rfl (pgs_cons (pg_name (i := 2) sc_l_all_same.nd rfl (.inl rfl)) (pgs_cons (pg_name (i := 3) sc_l_all_same.nd rfl (.inl rfl)) pgs_nil))) (pss_one (ps_if (pt_not (pt_val (pe_cal C_l_same (hr.mono (by first | decide | omega)) (by rfl) (pa_cons (pv 2) (pa_cons (pv 3) pa_nil))))) (pss_one (ps_ret pe_bl)) pss_nil)))
      (pss_one (ps_ret pe_bl))), ?_⟩
    have hl : xs.length = ys.length := (DpAll_len hxs).trans (DpAll_len hys).symm
    refine ⟨_, rfl, _, rfl, a, b, xs, ys, rfl, ha, hb, RZ.for_zipL hl (fun i σ H1 => Ext tb [] H H1 ∧ ∃ y2 y3, σ = [some (.ref a), some (.ref b), y2, y3]) ⟨Ext.refl, none, none, rfl⟩ (fun i σ H1 h => ⟨h.1.sqL hT ha (by simp), h.1.sqL hT hb (by simp)⟩) ?_ ?_⟩
    · rintro i x y tt σ H1 hx hy ⟨ex, y2, y3, rfl⟩ nt
      have e1 : Ext tb [] H1 (upd H1 tt (.tup [x, y])) := Ext.new (ex.tabs hT) nt
      have e2 := ex.trans e1
      refine ⟨tt, [x, y], rfl, SqT.of upd_same, rfl, x, [y], rfl, y, [], rfl, rfl, ?_⟩
      obtain ⟨d, hdx, hvx⟩ := DpAll_get hxs hx
      obtain ⟨d', hdy, hvy⟩ := DpAll_get hys hy
      rw [hdx] at hdy
      cases hdy
      refine ⟨_, rfl, _, rfl, x, y, d, rfl, Dp_ext e2 hT d hvx, Dp_ext e2 hT d hvy, nb_get hn hdx, Nat.le_trans (dep_get hdx) hd, e2.tabs hT, fun H' e' => ⟨true, rfl, iteF ?_⟩⟩
      exact ⟨e2.trans e', _, _, rfl⟩
    · rintro σ H1 ⟨ex, y2, y3, rfl⟩
      exact q H1 ex
theorem ok_sames {tb : List Addr} {f2 : Addr} {cd2 : Value} (T : Txt K mg) (F : FnAt K mg "_law_same" s_l_same ["_law_found", "_law_due"] f cd) (F2 : FnAt K mg "_law_all_same" s_l_all_same ["_law_found", "_law_due"] f2 cd2) : ∀ n : Nat, (CalE P w K mg base CX0 (2*n+1+1) "_law_same" (spSame K tb n))
  | 0 => ok_l_same T F (F2.cal sc_l_all_same (fun _ _ _ _ h => (show False from h).elim) (fun _ _ _ _ _ _ _ _ h => (show False from h).elim))
  | n + 1 => ok_l_same T F (ok_l_all_same T F2 (ok_sames T F F2 n))

/-! ### _law_files -/
theorem nb_ints : ∀ ns : List Int, nbAll (ns.map PyData.int) = true
  | [] => rfl
  | n :: r => by
    show (true && nbAll (r.map PyData.int)) = true
    rw [nb_ints r] <;> rfl
theorem blockD_ints {k : Int} {r : List Int} (h0 : 0 ≤ k) (h4 : k < 4) (h : ∀ n ∈ r, 0 ≤ n) : blockD (.tuple ((k :: r).map PyData.int)) = blockN k r := by
  show (((k :: r).map PyData.int).all nnD && blockH (((k :: r).map PyData.int).map numI)) = _
  rw [num_ints, all_ints, Bool.true_and]
  · show (if k ≥ 4 then false else blockN k r) = _
    rw [if_neg (by omega)]
  · intro n hn
    rcases List.mem_cons.mp hn with rfl | hn
    · exact decide_eq_true h0
    · exact decide_eq_true (h n hn)
theorem fives (m : Nat) {n : Int} (h : n ≤ 64) : blockN 2 (n :: List.replicate m 5) = decide ((m : Int) = placesN n) := by
  unfold blockN
  rw [if_neg (by decide), show linksN 2 (n :: List.replicate m 5) = List.replicate m 5 from rfl, no_zero (fun k hk => by rw [(List.mem_replicate.mp hk).2]; decide), if_neg Bool.false_ne_true, if_neg (by decide), if_pos rfl]
  show (decide (n ≤ 64) && decide ((((List.replicate m (5:Int)).length : Nat) : Int) = placesN n)) = _
  rw [decide_eq_true h, Bool.true_and, List.length_replicate]
theorem rep_five (m : Nat) : (List.replicate m [V.int 5]).flatten = (List.replicate m (5:Int)).map V.int := by
  induction m with
  | zero => rfl
  | succ m ih =>
    rw [List.replicate_succ, List.flatten_cons, ih, List.replicate_succ, List.map_cons]
    rfl
theorem rep_rd {tb : List Addr} {H : Hp} {l : Addr} {k : Int} {xs : List V} {Q : VK} (hT : Tabs tb H) (h : SqT K H l xs) (hne : xs ≠ []) (h0 : 0 ≤ k) (h1 : k ≤ 1000) (hz : xs.length ≤ 1000) (q : ∀ p H', Ext tb [] H H' → SqT K H' p (List.replicate k.toNat xs).flatten → Q (.ref p) H') : TM.rRepN K (.ref l) (.int k) H Q := by
  refine ⟨l, k, xs, rfl, rfl, h, hne, h0, h1, hz, ?_⟩
  by_cases e : k = 1
  · refine .inl ⟨e, q l H Ext.refl ?_⟩
    rw [e]
    show SqT K H l (xs ++ [])
    rw [List.append_nil]
    exact h
  · exact .inr ⟨e, fun p np => q p _ (Ext.new hT np) (SqT.of upd_same)⟩
def spFiles (tb : List Addr) : Sp := fun vs H Q _ => vs = [] ∧ Tabs tb H ∧ ∀ H', Ext tb [] H H' → Q (.bl true) H'
theorem ok_l_files {tb : List Addr} (T : Txt K mg) (F : FnAt K mg "_law_files" s_l_files [] f cd) (C_l_tops : CalE P w K mg base CX0 1 "_law_tops" spTops) (C_l_same : CalE P w K mg base CX0 4 "_law_same" (spSame K tb 1)) (C_height_of : CalE P w K mg base CX0 1 "height_of" spHeight) (C_l_height : CalE P w K mg base CX0 1 "_law_height" (spLHeight tb)) (C_is_block : CalE P w K mg base CX0 6 "is_block" (spBlock K tb)) : CalE P w K mg base CX0 7 "_law_files" (spFiles tb) := by
  refine F.cal sc_l_files (fun vs H Q E h => ?_) (fun A outer s H vs Q E hr h => ?_)
  · obtain ⟨rfl, _⟩ := h
    rfl
  · obtain ⟨rfl, hT, q⟩ := h
    refine ⟨_, (pss_cons (ps_for PassesOwn.never rfl (pi_range1 (by rfl) T.b_range (pa_cons pe_int pa_nil)) (pg_name (i := 0) sc_l_files.nd rfl (.inl rfl)) (pss_cons (ps_set (i := 1) sc_l_files.nd rfl (.inl rfl) (pe_cal C_l_tops (hr.mono (by first | decide | omega)) (by rfl) (pa_cons (pv 0) pa_nil)))
      (pss_cons (ps_if (pt_not (pt_val (pe_cal C_l_same (hr.mono (by first | decide | omega)) (by rfl) (pa_cons (pe_cal C_height_of (hr.mono (by first | decide | omega)) (by rfl) (pa_cons (pv 0) pa_nil)) (pa_cons (pe_cal C_l_height (hr.mono (by first | decide | omega)) (by rfl) (pa_cons (pv 0) pa_nil)) pa_nil))))) (pss_one (ps_ret pe_bl)) pss_nil)
      (pss_one (ps_for PassesOwn.never rfl (pi_range1 (by rfl) T.b_range (pa_cons pe_int pa_nil)) (pg_name (i := 2) sc_l_files.nd rfl (.inl rfl)) (pss_cons (ps_set (i := 3) sc_l_files.nd rfl (.inl rfl) (pe_op (q_catT (K := K) rfl) (pe_tup (pa_cons pe_int (pa_cons (pv 0) pa_nil))) (pe_op (TM.q_repN (K := K) rfl) (pe_tup (pa_cons pe_int pa_nil)) (pv 2))))
      (pss_cons (ps_set (i := 4) sc_l_files.nd rfl (.inl rfl) (pe_cal C_is_block (hr.mono (by first | decide | omega)) (by rfl) (pa_cons (pv 3) pa_nil)))
      (pss_one (ps_if (PW.pt (pw_or (pt_not (pt_val (pe_callB (q_isi (K := K) rfl) (by rfl) T.b_isinstance (by decide +kernel) (pa_cons (pv 4) (pa_cons (pe_bltn (v := .ty "bool") (by rfl) T.b_bool (by decide +kernel) rfl) pa_nil))))) (pw_or1 (pt_cmpR op_ne (pv 4) (pe_cmpR op_eq (pv 2) (pv 1) (nomark _)) (nomark _))))) (pss_one (ps_ret pe_bl)) pss_nil)))))))))
      (pss_one (ps_ret pe_bl))), ?_⟩
    refine ⟨_, rfl, by decide, by decide, for_range (lo := 0) (n := (65 : Int).toNat) (fun i σ H2 => ∃ (y0 y1 y2 y3 y4 : Option V), σ = [y0, y1, y2, y3, y4] ∧ Ext tb [] H H2) ⟨_, _, _, _, _, rfl, Ext.refl⟩ ?_ ?_⟩
    · rintro i σ H2 hi ⟨y0, y1, y2, y3, y4, rfl, ex⟩
      have hi : i < 65 := hi
      have hT2 := ex.tabs hT
      have h64 : 0 + (i : Int) ≤ 64 := by omega
      refine ⟨_, rfl, _, rfl, by omega, h64, ?_⟩
      refine ⟨_, rfl, _, rfl, h64, _, rfl, _, rfl, h64, hT2, fun H3 e3 => ?_⟩
      have hT3 := e3.tabs hT2
      refine ⟨_, _, .int _, rfl, .int _, .int _, rfl, Nat.zero_le _, hT3, fun H4 e4 => ⟨true, rfl, iteF ?_⟩⟩
      have ex4 := (ex.trans e3).trans e4
      refine ⟨_, rfl, by decide, by decide, for_range (lo := 0) (n := (7 : Int).toNat) (fun j σ H5 => ∃ (y2 y3 y4 : Option V), σ = [some (.int (0 + (i : Int))), some (.int (placesN (0 + (i : Int)))), y2, y3, y4] ∧ Ext tb [] H H5) ⟨_, _, _, rfl, ex4⟩ ?_ ?_⟩
      · rintro j σ H5 hj ⟨y2, y3, y4, rfl, ex5⟩
        have hj : j < 7 := hj
        have hT5 := ex5.tabs hT
        refine ⟨_, rfl, by show 2 ≤ sizeLine; decide, fun t nt => ?_⟩
        have e6 : Ext tb [] H5 (upd H5 t (.tup [.int 2, .int (0 + (i : Int))])) := Ext.new hT5 nt
        have hT6 := e6.tabs hT5
        refine ⟨by show 1 ≤ sizeLine; decide, fun u nu => ?_⟩
        have e7 : Ext tb [] H5 (upd (upd H5 t (.tup [.int 2, .int (0 + (i : Int))])) u (.tup [.int 5])) := e6.trans (Ext.new hT6 nu)
        have nut : u ≠ t := fun z => by rw [z, upd_same] at nu; cases nu
        have ht7 : SqT K (upd (upd H5 t (.tup [.int 2, .int (0 + (i : Int))])) u (.tup [.int 5])) t [.int 2, .int (0 + (i : Int))] := SqT.of (by rw [upd_ne (Ne.symm nut), upd_same])
        have hu7 : SqT K (upd (upd H5 t (.tup [.int 2, .int (0 + (i : Int))])) u (.tup [.int 5])) u [.int 5] := SqT.of upd_same
        generalize upd (upd H5 t (.tup [.int 2, .int (0 + (i : Int))])) u (.tup [.int 5]) = H7 at e7 ht7 hu7 ⊢
        have hT7 := e7.tabs hT5
        refine ⟨_, rfl, ?_⟩
        refine rep_rd hT7 hu7 (by simp) (by omega) (by omega) (by decide) fun p H8 e8 hp8 => ?_
        have hT8 := e8.tabs hT7
        refine cat_rd hT8 (e8.sqT hT7 ht7 (by simp)) hp8 ?_ fun p9 H9 e9 hp9 => ?_
        · rw [rep_five, List.length_map, List.length_replicate]
          show 2 + _ ≤ _
          omega
        have hT9 := e9.tabs hT8
        have hp9 : SqT K H9 p9 ((2 :: (0 + (i : Int)) :: List.replicate j 5).map V.int) := by
          rw [rep_five, show (0 + (j : Int)).toNat = j by omega] at hp9
          exact hp9
        refine ⟨_, rfl, _, .tuple ((2 :: (0 + (i : Int)) :: List.replicate j 5).map PyData.int), rfl, .tup hp9 (Rp_ints _), fun ds hds => ?_, hT9, fun H10 e10 => ?_⟩
        · cases hds
          rw [List.length_map, List.length_cons, List.length_cons, List.length_replicate]
          omega
        rw [blockD_ints (by decide) (by decide) (fun n hn => by
          rcases List.mem_cons.mp hn with rfl | hn
          · omega
          · rw [(List.mem_replicate.mp hn).2]
            decide), fives j h64]
        refine ⟨_, rfl, _, _, .type "bool", _, true, rfl, .ty _, Rp_ty (d := .bool _) (.bl _), kit_ty (by decide +kernel), true, rfl, iteF ?_⟩
        refine ⟨_, rfl, _, rfl, _, rfl, rfl, rfl, _, rfl, ?_⟩
        have same : decide (V.int (0 + (j : Int)) = V.int (placesN (0 + (i : Int)))) = decide ((j : Int) = placesN (0 + (i : Int))) := by
          by_cases z : (j : Int) = placesN (0 + (i : Int))
          · rw [decide_eq_true z, decide_eq_true (by rw [← z, Int.zero_add])]
          · rw [decide_eq_false z, decide_eq_false (fun y => z (by have := V.int.inj y; omega))]
        rw [same, decide_eq_true rfl]
        refine iteF ?_
        exact ⟨_, _, _, rfl, (((ex5.trans e7).trans e8).trans e9).trans e10⟩
      · rintro σ H5 ⟨y2, y3, y4, rfl, ex5⟩
        exact ⟨_, _, _, _, _, rfl, ex5⟩
    · rintro σ H2 ⟨y0, y1, y2, y3, y4, rfl, ex⟩
      exact q H2 ex

end
end K18

set_option Elab.async false
set_option linter.all false
set_option maxRecDepth 100000
set_option maxHeartbeats 1000000
namespace K18
open PySem PySem.Spec PyProof.Rows L2 HK DT
section
variable {P : Program} {w : World} {K : PySem.W.Frag} {mg : Str → Option Value} {base : Heap} {f : Addr} {cd : Value}
/-! ### the law -/
def spLaw (K : PySem.W.Frag) (tb : List Addr) : Sp := fun vs H Q _ => ∃ (a : Addr) (ns : List Int), vs = [.ref a] ∧ SqL K H a (ns.map V.int) ∧ ns.length ≤ 63 ∧ Tabs tb H ∧ ∀ H', Q (.bl true) H'
theorem ok_law {tb : List Addr} (T : Txt K mg) (C_l_draws : CalE P w K mg base CX0 2 "_law_draws" (spDraws K tb)) (C_l_next : CalE P w K mg base CX0 1 "_law_next" (spNext tb)) (C_l_block : CalE P w K mg base CX0 3 "_law_block" (spLBlock K tb)) (C_is_block : CalE P w K mg base CX0 6 "is_block" (spBlock K tb)) (C_l_same : CalE P w K mg base CX0 4 "_law_same" (spSame K tb 1))
    (C_links : CalE P w K mg base CX0 2 "links" (spLinks K tb)) (C_l_links : CalE P w K mg base CX0 1 "_law_links" (spLinks K tb)) (C_kind_of : CalE P w K mg base CX0 1 "kind_of" (spKind K)) (C_l_files : CalE P w K mg base CX0 7 "_law_files" (spFiles tb)) : FnG P w K mg base CX0 8 "law" s_law ["_law_script"] f cd (spLaw K tb) := by
  refine law_of sc_law (fun vs H Q E h => ?_) (fun A outer s H vs Q E hr h => ?_)
  · obtain ⟨a, ns, rfl, _⟩ := h
    rfl
  · obtain ⟨a, ns0, rfl, hS, hl, hT, q⟩ := h
    refine ⟨_, (pss_cons (ps_set (i := 1) sc_law.nd rfl (.inl rfl) (pe_cal C_l_draws (hr.mono (by first | decide | omega)) (by rfl) (pa_cons (pv 0) pa_nil)))
      (pss_cons (ps_for PassesOwn.never rfl (pi_range1 (by rfl) T.b_range (pa_cons (pe_op op_add pe_int (pe_op op_mod (pe_cal C_l_next (hr.mono (by first | decide | omega)) (by rfl) (pa_cons (pv 1) pa_nil)) pe_int)) pa_nil)) (pg_name (i := 2) sc_law.nd rfl (.inl rfl)) (pss_cons (ps_set (i := 3) sc_law.nd rfl (.inl rfl) (pe_cal C_l_block (hr.mono (by first | decide | omega)) (by rfl) (pa_cons (pv 1) (pa_cons (pe_op op_mod (pv 2) pe_int) pa_nil))))
      (pss_cons (ps_if (PW.pt (pw_or (pt_cmpR op_notBl (pe_cal C_is_block (hr.mono (by first | decide | omega)) (by rfl) (pa_cons (pv 3) pa_nil)) pe_bl (nomark _)) (pw_or1 (pt_not (pt_val (pe_cal C_l_same (hr.mono (by first | decide | omega)) (by rfl) (pa_cons (pe_cal C_links (hr.mono (by first | decide | omega)) (by rfl) (pa_cons (pv 3) pa_nil)) (pa_cons (pe_cal C_l_links (hr.mono (by first | decide | omega)) (by rfl) (pa_cons (pv 3) pa_nil)) pa_nil)))))))) (pss_one (ps_ret pe_bl)) pss_nil)
      (pss_cons (ps_if (pt_cmpR op_ne (pe_cal C_kind_of (hr.mono (by first | decide | omega)) (by rfl) (pa_cons (pv 3) pa_nil)) (pe_ix (q_ixL (K := K) rfl) (pe_lst (pa_cons pe_str (pa_cons pe_str (pa_cons pe_str (pa_cons pe_str pa_nil))))) (pe_op op_mod (pv 2) pe_int) (fun _ _ => rfl)) (nomark _)) (pss_one (ps_ret pe_bl)) pss_nil)
      (pss_one (ps_if (pt_not (pt_val (pe_cal C_l_same (hr.mono (by first | decide | omega)) (by rfl) (pa_cons (pe_cal C_links (hr.mono (by first | decide | omega)) (by rfl) (pa_cons (pv 3) pa_nil)) (pa_cons (pe_cal C_l_links (hr.mono (by first | decide | omega)) (by rfl) (pa_cons (pv 3) pa_nil)) pa_nil))))) (pss_one (ps_ret pe_bl)) pss_nil))))))
      (pss_one (ps_ret (pe_cal0 C_l_files (hr.mono (by first | decide | omega)) (by rfl)))))), ?_⟩
    refine ⟨_, rfl, a, ns0, rfl, hS, hl, hT, fun H1 d ds ex1 nd hD hd1 => ?_⟩
    have hT1 := ex1.tabs hT
    refine ⟨_, rfl, d, ds, rfl, hd1, hD, hT1, fun x0 r0 H2 hx0 hD2 ex2 hd2 => ?_⟩
    have e12 : Ext tb [d] H H2 := ex1.of0.trans ex2
    have b8 := mod_rg x0 8 (by decide)
    refine ⟨_, _, rfl, rfl, (by show (0:Int) < 8; decide), _, _, rfl, rfl, _, rfl, by omega, by omega, for_range (lo := 0) (n := (4 + x0 % 8).toNat) (fun i σ H3 => ∃ (r : List Int) (y2 y3 : Option V), σ = [some (.ref a), some (.ref d), y2, y3] ∧ Dr r ∧ Ext tb [d] H H3 ∧ H3 d = some (.lst (r.map V.int)))
      ⟨r0, _, _, rfl, hD2, e12, hd2⟩ ?_ ?_⟩
    · rintro i σ H3 hi ⟨r3, y2, y3, rfl, hD3, ex3, hd3⟩
      have hT3 := ex3.tabs hT
      have b4 := mod_rg (0 + (i : Int)) 4 (by decide)
      refine ⟨_, rfl, _, rfl, _, _, rfl, rfl, (by show (0:Int) < 4; decide), d, r3, _, rfl, b4.1, b4.2, hd3, hD3, hT3, fun p r es H4 ex4 hd4 hD4 hp4 hb hnn hlen => ?_⟩
      generalize hk : (0 + (i : Int)) % 4 = k at b4 hp4 hb
      have ex04 := ex3.trans ex4
      have hT4 := ex04.tabs hT
      refine ⟨_, rfl, _, .tuple ((k :: r).map PyData.int), rfl, .tup hp4 (Rp_ints _), fun ds hds => ?_, hT4, fun H5 e5 => ?_⟩
      · cases hds
        rw [List.length_map, List.length_cons]
        omega
      rw [blockD_ints b4.1 b4.2 hnn, hb]
      have hT5 := e5.tabs hT4
      have c5 : Cnt K H5 p k r := ⟨e5.sqT hT4 hp4 (by simp), b4.1, b4.2⟩
      have dl : PyData.depth (.tuple ((linksN k r).map PyData.int)) ≤ 1 := by
        show PyData.depthAll ((linksN k r).map PyData.int) + 1 ≤ 1
        rw [depAll_ints]
        decide
      have hr1 : r.length ≤ 1000 := by omega
      refine ⟨true, true, rfl, rfl, _, rfl, iteF ?_⟩
      refine ⟨_, rfl, p, k, r, rfl, c5, hr1, hT5, fun l1 H6 e6 hl1 => ?_⟩
      have hT6 := e6.tabs hT5
      refine ⟨_, rfl, p, k, r, rfl, c5.ext e6 hT5, hr1, hT6, fun l2 H7 e7 hl2 => ?_⟩
      have hT7 := e7.tabs hT6
      refine ⟨_, _, .tuple ((linksN k r).map PyData.int), rfl, .tup (e7.sqT hT6 hl1 (by simp)) (dp_ints _), .tup hl2 (dp_ints _), nb_ints _, dl, hT7, fun H8 e8 => ⟨true, rfl, iteF ?_⟩⟩
      have e58 := (e6.trans e7).trans e8
      have hT8 := e8.tabs hT7
      have c8 := c5.ext e58 hT5
      refine ⟨_, rfl, p, k, r, rfl, c8, by show 4 ≤ sizeLine; decide, fun t nt => ?_⟩
      have e9 : Ext tb [] H8 (upd H8 t (.lst (kinds.map V.str))) := Ext.new hT8 nt
      have hT9 := e9.tabs hT8
      have hkk : kinds[k.toNat]? = some (kindN k) := by
        have : k.toNat < kinds.length := by show k.toNat < 4; omega
        unfold kindN
        rw [List.getElem?_eq_getElem this] <;> rfl
      refine ⟨_, rfl, _, _, rfl, rfl, (by show (0:Int) < 4; decide), t, kinds.map V.str, _, .str (kindN k), rfl, rfl, SqL.of upd_same, ?_, rfl, _, rfl, ?_⟩
      · refine at_of (j := k.toNat) ?_ ?_
        · rw [hk]
          omega
        · rw [List.getElem?_map, hkk] <;> rfl
      rw [decide_eq_true rfl]
      refine iteF ?_
      have c9 := c8.ext e9 hT8
      refine ⟨_, rfl, p, k, r, rfl, c9, hr1, hT9, fun m1 H10 e10 hm1 => ?_⟩
      have hT10 := e10.tabs hT9
      refine ⟨_, rfl, p, k, r, rfl, c9.ext e10 hT9, hr1, hT10, fun m2 H11 e11 hm2 => ?_⟩
      have hT11 := e11.tabs hT10
      refine ⟨_, _, .tuple ((linksN k r).map PyData.int), rfl, .tup (e11.sqT hT10 hm1 (by simp)) (dp_ints _), .tup hm2 (dp_ints _), nb_ints _, dl, hT11, fun H12 e12 => ⟨true, rfl, iteF ?_⟩⟩
      have eall := (((e5.trans e58).trans e9).trans ((e10.trans e11).trans e12))
      exact ⟨es, _, _, rfl, hD4, ex04.trans eall.of0, eall.lst hT4 hd4 (by simp)⟩
    · rintro σ H3 ⟨r, y2, y3, rfl, hD3, ex3, hd3⟩
      exact ⟨rfl, ex3.tabs hT, fun H' _ => q H'⟩

end
end K18

set_option Elab.async false
set_option linter.all false
set_option maxRecDepth 100000
set_option maxHeartbeats 4000000
namespace K18
open PySem PySem.Spec PyProof.Rows L2 HK DT
/-! ### the end -/
theorem all_mk {l : PySem.W.OpenLaw} {w : World} {K : PySem.W.Frag} {h : Heap} {mg : Str → Option Value} {fa : Addr} {q : Program} (X : K.In h) (G : h.Ns mainGlobals mg) (hfa : mg "law" = some (.ref fa)) (tabs : TabAt K mg h q)
    {f_is_number : Addr} {oc_is_number : Value} {od_is_number an_is_number : Option Addr} {kV_is_number dc_is_number pm_is_number ct_is_number : Value} {sl_is_number : Array (Option Value)}
    {cd_is_number : Value}
    {f_is_number_to : Addr} {oc_is_number_to : Value} {od_is_number_to an_is_number_to : Option Addr} {kV_is_number_to dc_is_number_to pm_is_number_to ct_is_number_to : Value} {sl_is_number_to : Array (Option Value)}
    {cd_is_number_to : Value}
    {f_is_content : Addr} {oc_is_content : Value} {od_is_content an_is_content : Option Addr} {kV_is_content dc_is_content pm_is_content ct_is_content : Value} {sl_is_content : Array (Option Value)}
    {cc_is_content pt_is_content : Addr} {ec_is_content : Value} {ed_is_content : Option Addr} {ev_is_content : Array Value} {es_is_content : Array (Option Value)}
    {f_name_of : Addr} {oc_name_of : Value} {od_name_of an_name_of : Option Addr} {kV_name_of dc_name_of pm_name_of ct_name_of : Value} {sl_name_of : Array (Option Value)}
    {cd_name_of : Value}
    {f_is_leaf : Addr} {oc_is_leaf : Value} {od_is_leaf an_is_leaf : Option Addr} {kV_is_leaf dc_is_leaf pm_is_leaf ct_is_leaf : Value} {sl_is_leaf : Array (Option Value)}
    {cc_is_leaf pt_is_leaf : Addr} {ec_is_leaf : Value} {ed_is_leaf : Option Addr} {ev_is_leaf : Array Value} {es_is_leaf : Array (Option Value)}
    {f_is_block : Addr} {oc_is_block : Value} {od_is_block an_is_block : Option Addr} {kV_is_block dc_is_block pm_is_block ct_is_block : Value} {sl_is_block : Array (Option Value)}
    {cd_is_block : Value}
    {f_is_file : Addr} {oc_is_file : Value} {od_is_file an_is_file : Option Addr} {kV_is_file dc_is_file pm_is_file ct_is_file : Value} {sl_is_file : Array (Option Value)}
    {cd_is_file : Value}
    {f_is_folder_block : Addr} {oc_is_folder_block : Value} {od_is_folder_block an_is_folder_block : Option Addr} {kV_is_folder_block dc_is_folder_block pm_is_folder_block ct_is_folder_block : Value} {sl_is_folder_block : Array (Option Value)}
    {cc_is_folder_block pt_is_folder_block : Addr} {ec_is_folder_block : Value} {ed_is_folder_block : Option Addr} {ev_is_folder_block : Array Value} {es_is_folder_block : Array (Option Value)}
    {f_is_code : Addr} {oc_is_code : Value} {od_is_code an_is_code : Option Addr} {kV_is_code dc_is_code pm_is_code ct_is_code : Value} {sl_is_code : Array (Option Value)}
    {cd_is_code : Value}
    {f_kind_of : Addr} {oc_kind_of : Value} {od_kind_of an_kind_of : Option Addr} {kV_kind_of dc_kind_of pm_kind_of ct_kind_of : Value} {sl_kind_of : Array (Option Value)}
    {cd_kind_of : Value}
    {f_links : Addr} {oc_links : Value} {od_links an_links : Option Addr} {kV_links dc_links pm_links ct_links : Value} {sl_links : Array (Option Value)}
    {cd_links : Value}
    {f_height_of : Addr} {oc_height_of : Value} {od_height_of an_height_of : Option Addr} {kV_height_of dc_height_of pm_height_of ct_height_of : Value} {sl_height_of : Array (Option Value)}
    {cd_height_of : Value}
    {f_level_sizes : Addr} {oc_level_sizes : Value} {od_level_sizes an_level_sizes : Option Addr} {kV_level_sizes dc_level_sizes pm_level_sizes ct_level_sizes : Value} {sl_level_sizes : Array (Option Value)}
    {cd_level_sizes : Value}
    {f_l_mixed : Addr} {oc_l_mixed : Value} {od_l_mixed an_l_mixed : Option Addr} {kV_l_mixed dc_l_mixed pm_l_mixed ct_l_mixed : Value} {sl_l_mixed : Array (Option Value)}
    {cd_l_mixed : Value}
    {f_l_draws : Addr} {oc_l_draws : Value} {od_l_draws an_l_draws : Option Addr} {kV_l_draws dc_l_draws pm_l_draws ct_l_draws : Value} {sl_l_draws : Array (Option Value)}
    {cd_l_draws : Value}
    {f_l_next : Addr} {oc_l_next : Value} {od_l_next an_l_next : Option Addr} {kV_l_next dc_l_next pm_l_next ct_l_next : Value} {sl_l_next : Array (Option Value)}
    {cd_l_next : Value}
    {f_l_same : Addr} {oc_l_same : Value} {od_l_same an_l_same : Option Addr} {kV_l_same dc_l_same pm_l_same ct_l_same : Value} {sl_l_same : Array (Option Value)}
    {cd_l_same : Value}
    {f_l_all_same : Addr} {oc_l_all_same : Value} {od_l_all_same an_l_all_same : Option Addr} {kV_l_all_same dc_l_all_same pm_l_all_same ct_l_all_same : Value} {sl_l_all_same : Array (Option Value)}
    {cd_l_all_same : Value}
    {f_l_code : Addr} {oc_l_code : Value} {od_l_code an_l_code : Option Addr} {kV_l_code dc_l_code pm_l_code ct_l_code : Value} {sl_l_code : Array (Option Value)}
    {cd_l_code : Value}
    {f_l_tops : Addr} {oc_l_tops : Value} {od_l_tops an_l_tops : Option Addr} {kV_l_tops dc_l_tops pm_l_tops ct_l_tops : Value} {sl_l_tops : Array (Option Value)}
    {cd_l_tops : Value}
    {f_l_places : Addr} {oc_l_places : Value} {od_l_places an_l_places : Option Addr} {kV_l_places dc_l_places pm_l_places ct_l_places : Value} {sl_l_places : Array (Option Value)}
    {cd_l_places : Value}
    {f_l_block : Addr} {oc_l_block : Value} {od_l_block an_l_block : Option Addr} {kV_l_block dc_l_block pm_l_block ct_l_block : Value} {sl_l_block : Array (Option Value)}
    {cd_l_block : Value}
    {f_l_links : Addr} {oc_l_links : Value} {od_l_links an_l_links : Option Addr} {kV_l_links dc_l_links pm_l_links ct_l_links : Value} {sl_l_links : Array (Option Value)}
    {cd_l_links : Value}
    {f_l_height : Addr} {oc_l_height : Value} {od_l_height an_l_height : Option Addr} {kV_l_height dc_l_height pm_l_height ct_l_height : Value} {sl_l_height : Array (Option Value)}
    {cd_l_height : Value}
    {f_l_files : Addr} {oc_l_files : Value} {od_l_files an_l_files : Option Addr} {kV_l_files dc_l_files pm_l_files ct_l_files : Value} {sl_l_files : Array (Option Value)}
    {cd_l_files : Value}
    {f_law : Addr} {oc_law : Value} {od_law an_law : Option Addr} {kV_law dc_law pm_law ct_law : Value} {sl_law : Array (Option Value)}
    {cd_law : Value}
    {C_NoName fI_NoName cc_NoName cda_NoName : Addr} {xoc_NoName xkV_NoName xdc_NoName xpm_NoName xct_NoName xcl_NoName xel_NoName : Value} {xod_NoName xan_NoName xcd_NoName xed_NoName : Option Addr} {xsl_NoName xcs_NoName xes_NoName : Array (Option Value)} {xvs_NoName : Array Value} {xfi_NoName : Str} {xtk_NoName : Tok}
    {t_BUNDLE : Tok}
    {t_LETTERS : Tok}
    {t_MOST_LEAVES : Tok}
    {t_MOST_NUMBERS : Tok}
    {t_MOST_THINGS : Tok}
    (a_is_number : PySem.W.nsIn K mainGlobals "is_number" = some (some (.ref f_is_number))) (l_is_number : K.lookup f_is_number = some ⟨oc_is_number, od_is_number, .func (PySem.W.fnOf "is_number" "is_number" (defArgs s_is_number) (defBody s_is_number) (defScope s_is_number) .none kV_is_number dc_is_number pm_is_number an_is_number cd_is_number ct_is_number), sl_is_number⟩) (c_is_number : PySem.W.codeIn K cd_is_number "is_number" = true) (k_is_number : PySem.W.keepIn K (.ref f_is_number) = true)
    (a_is_number_to : PySem.W.nsIn K mainGlobals "is_number_to" = some (some (.ref f_is_number_to))) (l_is_number_to : K.lookup f_is_number_to = some ⟨oc_is_number_to, od_is_number_to, .func (PySem.W.fnOf "is_number_to" "is_number_to" (defArgs s_is_number_to) (defBody s_is_number_to) (defScope s_is_number_to) .none kV_is_number_to dc_is_number_to pm_is_number_to an_is_number_to cd_is_number_to ct_is_number_to), sl_is_number_to⟩) (c_is_number_to : PySem.W.codeIn K cd_is_number_to "is_number_to" = true) (k_is_number_to : PySem.W.keepIn K (.ref f_is_number_to) = true)
    (a_is_content : PySem.W.nsIn K mainGlobals "is_content" = some (some (.ref f_is_content))) (l_is_content : K.lookup f_is_content = some ⟨oc_is_content, od_is_content, .func (PySem.W.fnOf "is_content" "is_content" (defArgs s_is_content) (defBody s_is_content) (defScope s_is_content) .none kV_is_content dc_is_content pm_is_content an_is_content (.ref cc_is_content) ct_is_content), sl_is_content⟩) (c_is_content : PySem.W.codeIn K (.ref cc_is_content) "is_content" = true) (k_is_content : PySem.W.keepIn K (.ref f_is_content) = true)
    (e_is_content : K.lookup cc_is_content = some ⟨ec_is_content, ed_is_content, .fields ev_is_content, es_is_content⟩) (p_is_content : ev_is_content[11]? = some (.ref pt_is_content)) (o_is_content : K.lookup pt_is_content = none) (r_is_content : ((recsOf q).any fun e => e.name == ("is_content" : Str)) = true)
    (a_name_of : PySem.W.nsIn K mainGlobals "name_of" = some (some (.ref f_name_of))) (l_name_of : K.lookup f_name_of = some ⟨oc_name_of, od_name_of, .func (PySem.W.fnOf "name_of" "name_of" (defArgs s_name_of) (defBody s_name_of) (defScope s_name_of) .none kV_name_of dc_name_of pm_name_of an_name_of cd_name_of ct_name_of), sl_name_of⟩) (c_name_of : PySem.W.codeIn K cd_name_of "name_of" = true) (k_name_of : PySem.W.keepIn K (.ref f_name_of) = true)
    (a_is_leaf : PySem.W.nsIn K mainGlobals "is_leaf" = some (some (.ref f_is_leaf))) (l_is_leaf : K.lookup f_is_leaf = some ⟨oc_is_leaf, od_is_leaf, .func (PySem.W.fnOf "is_leaf" "is_leaf" (defArgs s_is_leaf) (defBody s_is_leaf) (defScope s_is_leaf) .none kV_is_leaf dc_is_leaf pm_is_leaf an_is_leaf (.ref cc_is_leaf) ct_is_leaf), sl_is_leaf⟩) (c_is_leaf : PySem.W.codeIn K (.ref cc_is_leaf) "is_leaf" = true) (k_is_leaf : PySem.W.keepIn K (.ref f_is_leaf) = true)
    (e_is_leaf : K.lookup cc_is_leaf = some ⟨ec_is_leaf, ed_is_leaf, .fields ev_is_leaf, es_is_leaf⟩) (p_is_leaf : ev_is_leaf[11]? = some (.ref pt_is_leaf)) (o_is_leaf : K.lookup pt_is_leaf = none) (r_is_leaf : ((recsOf q).any fun e => e.name == ("is_leaf" : Str)) = true)
    (a_is_block : PySem.W.nsIn K mainGlobals "is_block" = some (some (.ref f_is_block))) (l_is_block : K.lookup f_is_block = some ⟨oc_is_block, od_is_block, .func (PySem.W.fnOf "is_block" "is_block" (defArgs s_is_block) (defBody s_is_block) (defScope s_is_block) .none kV_is_block dc_is_block pm_is_block an_is_block cd_is_block ct_is_block), sl_is_block⟩) (c_is_block : PySem.W.codeIn K cd_is_block "is_block" = true) (k_is_block : PySem.W.keepIn K (.ref f_is_block) = true)
    (a_is_file : PySem.W.nsIn K mainGlobals "is_file" = some (some (.ref f_is_file))) (l_is_file : K.lookup f_is_file = some ⟨oc_is_file, od_is_file, .func (PySem.W.fnOf "is_file" "is_file" (defArgs s_is_file) (defBody s_is_file) (defScope s_is_file) .none kV_is_file dc_is_file pm_is_file an_is_file cd_is_file ct_is_file), sl_is_file⟩) (c_is_file : PySem.W.codeIn K cd_is_file "is_file" = true) (k_is_file : PySem.W.keepIn K (.ref f_is_file) = true)
    (a_is_folder_block : PySem.W.nsIn K mainGlobals "is_folder_block" = some (some (.ref f_is_folder_block))) (l_is_folder_block : K.lookup f_is_folder_block = some ⟨oc_is_folder_block, od_is_folder_block, .func (PySem.W.fnOf "is_folder_block" "is_folder_block" (defArgs s_is_folder_block) (defBody s_is_folder_block) (defScope s_is_folder_block) .none kV_is_folder_block dc_is_folder_block pm_is_folder_block an_is_folder_block (.ref cc_is_folder_block) ct_is_folder_block), sl_is_folder_block⟩) (c_is_folder_block : PySem.W.codeIn K (.ref cc_is_folder_block) "is_folder_block" = true) (k_is_folder_block : PySem.W.keepIn K (.ref f_is_folder_block) = true)
    (e_is_folder_block : K.lookup cc_is_folder_block = some ⟨ec_is_folder_block, ed_is_folder_block, .fields ev_is_folder_block, es_is_folder_block⟩) (p_is_folder_block : ev_is_folder_block[11]? = some (.ref pt_is_folder_block)) (o_is_folder_block : K.lookup pt_is_folder_block = none) (r_is_folder_block : ((recsOf q).any fun e => e.name == ("is_folder_block" : Str)) = true)
    (a_is_code : PySem.W.nsIn K mainGlobals "is_code" = some (some (.ref f_is_code))) (l_is_code : K.lookup f_is_code = some ⟨oc_is_code, od_is_code, .func (PySem.W.fnOf "is_code" "is_code" (defArgs s_is_code) (defBody s_is_code) (defScope s_is_code) .none kV_is_code dc_is_code pm_is_code an_is_code cd_is_code ct_is_code), sl_is_code⟩) (c_is_code : PySem.W.codeIn K cd_is_code "is_code" = true) (k_is_code : PySem.W.keepIn K (.ref f_is_code) = true)
    (a_kind_of : PySem.W.nsIn K mainGlobals "kind_of" = some (some (.ref f_kind_of))) (l_kind_of : K.lookup f_kind_of = some ⟨oc_kind_of, od_kind_of, .func (PySem.W.fnOf "kind_of" "kind_of" (defArgs s_kind_of) (defBody s_kind_of) (defScope s_kind_of) .none kV_kind_of dc_kind_of pm_kind_of an_kind_of cd_kind_of ct_kind_of), sl_kind_of⟩) (c_kind_of : PySem.W.codeIn K cd_kind_of "kind_of" = true) (k_kind_of : PySem.W.keepIn K (.ref f_kind_of) = true)
    (a_links : PySem.W.nsIn K mainGlobals "links" = some (some (.ref f_links))) (l_links : K.lookup f_links = some ⟨oc_links, od_links, .func (PySem.W.fnOf "links" "links" (defArgs s_links) (defBody s_links) (defScope s_links) .none kV_links dc_links pm_links an_links cd_links ct_links), sl_links⟩) (c_links : PySem.W.codeIn K cd_links "links" = true) (k_links : PySem.W.keepIn K (.ref f_links) = true)
    (a_height_of : PySem.W.nsIn K mainGlobals "height_of" = some (some (.ref f_height_of))) (l_height_of : K.lookup f_height_of = some ⟨oc_height_of, od_height_of, .func (PySem.W.fnOf "height_of" "height_of" (defArgs s_height_of) (defBody s_height_of) (defScope s_height_of) .none kV_height_of dc_height_of pm_height_of an_height_of cd_height_of ct_height_of), sl_height_of⟩) (c_height_of : PySem.W.codeIn K cd_height_of "height_of" = true) (k_height_of : PySem.W.keepIn K (.ref f_height_of) = true)
    (a_level_sizes : PySem.W.nsIn K mainGlobals "level_sizes" = some (some (.ref f_level_sizes))) (l_level_sizes : K.lookup f_level_sizes = some ⟨oc_level_sizes, od_level_sizes, .func (PySem.W.fnOf "level_sizes" "level_sizes" (defArgs s_level_sizes) (defBody s_level_sizes) (defScope s_level_sizes) .none kV_level_sizes dc_level_sizes pm_level_sizes an_level_sizes cd_level_sizes ct_level_sizes), sl_level_sizes⟩) (c_level_sizes : PySem.W.codeIn K cd_level_sizes "level_sizes" = true) (k_level_sizes : PySem.W.keepIn K (.ref f_level_sizes) = true)
    (a_l_mixed : PySem.W.nsIn K mainGlobals "_law_mixed" = some (some (.ref f_l_mixed))) (l_l_mixed : K.lookup f_l_mixed = some ⟨oc_l_mixed, od_l_mixed, .func (PySem.W.fnOf "_law_mixed" "_law_mixed" (defArgs s_l_mixed) (defBody s_l_mixed) (defScope s_l_mixed) .none kV_l_mixed dc_l_mixed pm_l_mixed an_l_mixed cd_l_mixed ct_l_mixed), sl_l_mixed⟩) (c_l_mixed : PySem.W.codeIn K cd_l_mixed "_law_mixed" = true) (k_l_mixed : PySem.W.keepIn K (.ref f_l_mixed) = true)
    (a_l_draws : PySem.W.nsIn K mainGlobals "_law_draws" = some (some (.ref f_l_draws))) (l_l_draws : K.lookup f_l_draws = some ⟨oc_l_draws, od_l_draws, .func (PySem.W.fnOf "_law_draws" "_law_draws" (defArgs s_l_draws) (defBody s_l_draws) (defScope s_l_draws) .none kV_l_draws dc_l_draws pm_l_draws an_l_draws cd_l_draws ct_l_draws), sl_l_draws⟩) (c_l_draws : PySem.W.codeIn K cd_l_draws "_law_draws" = true) (k_l_draws : PySem.W.keepIn K (.ref f_l_draws) = true)
    (a_l_next : PySem.W.nsIn K mainGlobals "_law_next" = some (some (.ref f_l_next))) (l_l_next : K.lookup f_l_next = some ⟨oc_l_next, od_l_next, .func (PySem.W.fnOf "_law_next" "_law_next" (defArgs s_l_next) (defBody s_l_next) (defScope s_l_next) .none kV_l_next dc_l_next pm_l_next an_l_next cd_l_next ct_l_next), sl_l_next⟩) (c_l_next : PySem.W.codeIn K cd_l_next "_law_next" = true) (k_l_next : PySem.W.keepIn K (.ref f_l_next) = true)
    (a_l_same : PySem.W.nsIn K mainGlobals "_law_same" = some (some (.ref f_l_same))) (l_l_same : K.lookup f_l_same = some ⟨oc_l_same, od_l_same, .func (PySem.W.fnOf "_law_same" "_law_same" (defArgs s_l_same) (defBody s_l_same) (defScope s_l_same) .none kV_l_same dc_l_same pm_l_same an_l_same cd_l_same ct_l_same), sl_l_same⟩) (c_l_same : PySem.W.codeIn K cd_l_same "_law_same" = true) (k_l_same : PySem.W.keepIn K (.ref f_l_same) = true)
    (a_l_all_same : PySem.W.nsIn K mainGlobals "_law_all_same" = some (some (.ref f_l_all_same))) (l_l_all_same : K.lookup f_l_all_same = some ⟨oc_l_all_same, od_l_all_same, .func (PySem.W.fnOf "_law_all_same" "_law_all_same" (defArgs s_l_all_same) (defBody s_l_all_same) (defScope s_l_all_same) .none kV_l_all_same dc_l_all_same pm_l_all_same an_l_all_same cd_l_all_same ct_l_all_same), sl_l_all_same⟩) (c_l_all_same : PySem.W.codeIn K cd_l_all_same "_law_all_same" = true) (k_l_all_same : PySem.W.keepIn K (.ref f_l_all_same) = true)
    (a_l_code : PySem.W.nsIn K mainGlobals "_law_code" = some (some (.ref f_l_code))) (l_l_code : K.lookup f_l_code = some ⟨oc_l_code, od_l_code, .func (PySem.W.fnOf "_law_code" "_law_code" (defArgs s_l_code) (defBody s_l_code) (defScope s_l_code) .none kV_l_code dc_l_code pm_l_code an_l_code cd_l_code ct_l_code), sl_l_code⟩) (c_l_code : PySem.W.codeIn K cd_l_code "_law_code" = true) (k_l_code : PySem.W.keepIn K (.ref f_l_code) = true)
    (a_l_tops : PySem.W.nsIn K mainGlobals "_law_tops" = some (some (.ref f_l_tops))) (l_l_tops : K.lookup f_l_tops = some ⟨oc_l_tops, od_l_tops, .func (PySem.W.fnOf "_law_tops" "_law_tops" (defArgs s_l_tops) (defBody s_l_tops) (defScope s_l_tops) .none kV_l_tops dc_l_tops pm_l_tops an_l_tops cd_l_tops ct_l_tops), sl_l_tops⟩) (c_l_tops : PySem.W.codeIn K cd_l_tops "_law_tops" = true) (k_l_tops : PySem.W.keepIn K (.ref f_l_tops) = true)
    (a_l_places : PySem.W.nsIn K mainGlobals "_law_places" = some (some (.ref f_l_places))) (l_l_places : K.lookup f_l_places = some ⟨oc_l_places, od_l_places, .func (PySem.W.fnOf "_law_places" "_law_places" (defArgs s_l_places) (defBody s_l_places) (defScope s_l_places) .none kV_l_places dc_l_places pm_l_places an_l_places cd_l_places ct_l_places), sl_l_places⟩) (c_l_places : PySem.W.codeIn K cd_l_places "_law_places" = true) (k_l_places : PySem.W.keepIn K (.ref f_l_places) = true)
    (a_l_block : PySem.W.nsIn K mainGlobals "_law_block" = some (some (.ref f_l_block))) (l_l_block : K.lookup f_l_block = some ⟨oc_l_block, od_l_block, .func (PySem.W.fnOf "_law_block" "_law_block" (defArgs s_l_block) (defBody s_l_block) (defScope s_l_block) .none kV_l_block dc_l_block pm_l_block an_l_block cd_l_block ct_l_block), sl_l_block⟩) (c_l_block : PySem.W.codeIn K cd_l_block "_law_block" = true) (k_l_block : PySem.W.keepIn K (.ref f_l_block) = true)
    (a_l_links : PySem.W.nsIn K mainGlobals "_law_links" = some (some (.ref f_l_links))) (l_l_links : K.lookup f_l_links = some ⟨oc_l_links, od_l_links, .func (PySem.W.fnOf "_law_links" "_law_links" (defArgs s_l_links) (defBody s_l_links) (defScope s_l_links) .none kV_l_links dc_l_links pm_l_links an_l_links cd_l_links ct_l_links), sl_l_links⟩) (c_l_links : PySem.W.codeIn K cd_l_links "_law_links" = true) (k_l_links : PySem.W.keepIn K (.ref f_l_links) = true)
    (a_l_height : PySem.W.nsIn K mainGlobals "_law_height" = some (some (.ref f_l_height))) (l_l_height : K.lookup f_l_height = some ⟨oc_l_height, od_l_height, .func (PySem.W.fnOf "_law_height" "_law_height" (defArgs s_l_height) (defBody s_l_height) (defScope s_l_height) .none kV_l_height dc_l_height pm_l_height an_l_height cd_l_height ct_l_height), sl_l_height⟩) (c_l_height : PySem.W.codeIn K cd_l_height "_law_height" = true) (k_l_height : PySem.W.keepIn K (.ref f_l_height) = true)
    (a_l_files : PySem.W.nsIn K mainGlobals "_law_files" = some (some (.ref f_l_files))) (l_l_files : K.lookup f_l_files = some ⟨oc_l_files, od_l_files, .func (PySem.W.fnOf "_law_files" "_law_files" (defArgs s_l_files) (defBody s_l_files) (defScope s_l_files) .none kV_l_files dc_l_files pm_l_files an_l_files cd_l_files ct_l_files), sl_l_files⟩) (c_l_files : PySem.W.codeIn K cd_l_files "_law_files" = true) (k_l_files : PySem.W.keepIn K (.ref f_l_files) = true)
    (a_law : PySem.W.nsIn K mainGlobals "law" = some (some (.ref f_law))) (l_law : K.lookup f_law = some ⟨oc_law, od_law, .func (PySem.W.fnOf "law" "law" (defArgs s_law) (defBody s_law) (defScope s_law) .none kV_law dc_law pm_law an_law cd_law ct_law), sl_law⟩) (c_law : PySem.W.codeIn K cd_law "law" = true) (k_law : PySem.W.keepIn K (.ref f_law) = true)
    (xm_NoName : PySem.W.nsIn K mainGlobals "NoName" = some (some (.ref C_NoName))) (xq_NoName : PySem.W.excInitIn K C_NoName exBases "ValueError.__new__" = true) (xk_NoName : PySem.W.keepIn K (.ref C_NoName) = true) (xs_NoName : PySem.W.subIn K (.ref C_NoName) (.type "BaseException") = some true) (xt_NoName : PySem.W.typeIn K (.ref C_NoName) = some (.type "type")) (xi_NoName : PySem.W.isClsIn K C_NoName = true) (xf_NoName : PySem.W.subIn K (.ref C_NoName) (.ref C_NoName) = some true) (xv_NoName : PySem.W.subIn K (.ref C_NoName) (.type "ValueError") = some true) (xu_NoName : PySem.W.ks_superIn K C_NoName C_NoName "__init__" = some (some (.builtin "ValueError.__init__"))) (xr_NoName : PySem.W.mroIn K C_NoName (.ref C_NoName) = some true) (xg_NoName : PySem.W.findIn K (.ref C_NoName) "__init__" = some (some (.ref fI_NoName))) (xh_NoName : PySem.W.typeIn K (.ref fI_NoName) = some (.type "function")) (xl_NoName : K.lookup fI_NoName = some ⟨xoc_NoName, xod_NoName, .func (PySem.W.ksFn "__init__" "NoName.__init__" (defArgs s_NoName_init) (defBody s_NoName_init) (defScope s_NoName_init) .none xkV_NoName xdc_NoName xpm_NoName xan_NoName (.ref cda_NoName) xct_NoName cc_NoName), xsl_NoName⟩) (xc_NoName : PySem.W.codeIn K (.ref cda_NoName) "NoName.__init__" = true) (xd_NoName : K.lookup cda_NoName = some ⟨xcl_NoName, xcd_NoName, .fields xvs_NoName, xcs_NoName⟩) (xw_NoName : xvs_NoName[2]? = some (.str xfi_NoName xtk_NoName)) (xy_NoName : ((l.prog.main.file : Str) == xfi_NoName) = true) (xe_NoName : K.lookup cc_NoName = some ⟨xel_NoName, xed_NoName, .cell (some (.ref C_NoName)), xes_NoName⟩)
    (y_op : PySem.W.nsIn K cStatics "thirdparty.any" = some none) (y_super : PySem.W.nsIn K mainGlobals "super" = some none) (y_ps : (l.prog.main.scope.names.lookup ("super" : Str)).isSome = false)
    (z_abs : PySem.W.nsIn K mainGlobals "abs" = some none)
    (z_all : PySem.W.nsIn K mainGlobals "all" = some none)
    (z_bool : PySem.W.nsIn K mainGlobals "bool" = some none)
    (z_divmod : PySem.W.nsIn K mainGlobals "divmod" = some none)
    (z_int : PySem.W.nsIn K mainGlobals "int" = some none)
    (z_isinstance : PySem.W.nsIn K mainGlobals "isinstance" = some none)
    (z_len : PySem.W.nsIn K mainGlobals "len" = some none)
    (z_list : PySem.W.nsIn K mainGlobals "list" = some none)
    (z_min : PySem.W.nsIn K mainGlobals "min" = some none)
    (z_range : PySem.W.nsIn K mainGlobals "range" = some none)
    (z_reversed : PySem.W.nsIn K mainGlobals "reversed" = some none)
    (z_set : PySem.W.nsIn K mainGlobals "set" = some none)
    (z_sorted : PySem.W.nsIn K mainGlobals "sorted" = some none)
    (z_str : PySem.W.nsIn K mainGlobals "str" = some none)
    (z_tuple : PySem.W.nsIn K mainGlobals "tuple" = some none)
    (z_zip : PySem.W.nsIn K mainGlobals "zip" = some none)
    (z_BUNDLE : PySem.W.nsIn K mainGlobals "BUNDLE" = some (some (.int 4 t_BUNDLE)))
    (z_LETTERS : PySem.W.nsIn K mainGlobals "LETTERS" = some (some (.str letters t_LETTERS)))
    (z_MOST_LEAVES : PySem.W.nsIn K mainGlobals "MOST_LEAVES" = some (some (.int 64 t_MOST_LEAVES)))
    (z_MOST_NUMBERS : PySem.W.nsIn K mainGlobals "MOST_NUMBERS" = some (some (.int 8 t_MOST_NUMBERS)))
    (z_MOST_THINGS : PySem.W.nsIn K mainGlobals "MOST_THINGS" = some (some (.int 8 t_MOST_THINGS)))
    {aK : Addr} {dK : Option Addr} {nK : Nat} {sK : Array (Option Value)} {tk0 tk1 tk2 tk3 : Tok} (z_KINDS : PySem.W.nsIn K mainGlobals "KINDS" = some (some (.ref aK))) (w_KINDS : K.lookup aK = some ⟨.type "tuple", dK, .seq #[.str "leaf" tk0, .str "branch" tk1, .str "file" tk2, .str "folder" tk3] nK, sK⟩) :
    LamX.LawAtS l w K CX0 8 63 "_law_script" mg fa h := by
  have F_is_number := fnAt_mk (st := s_is_number) (ps := ["one"]) (PySem.W.mg_of X G a_is_number) l_is_number c_is_number k_is_number (fun us hl => match us, hl with | [_], _ => rfl)
  have F_is_number_to := fnAt_mk (st := s_is_number_to) (ps := ["one", "most"]) (PySem.W.mg_of X G a_is_number_to) l_is_number_to c_is_number_to k_is_number_to (fun us hl => match us, hl with | [_, _], _ => rfl)
  have F_is_content := fnAt_mk (st := s_is_content) (ps := ["one"]) (PySem.W.mg_of X G a_is_content) l_is_content c_is_content k_is_content (fun us hl => match us, hl with | [_], _ => rfl)
  have B_is_content := tabs "is_content" f_is_content cc_is_content pt_is_content _ _ _ _ _ _ r_is_content (PySem.W.mg_of X G a_is_content) l_is_content rfl rfl e_is_content p_is_content
  have F_name_of := fnAt_mk (st := s_name_of) (ps := ["code"]) (PySem.W.mg_of X G a_name_of) l_name_of c_name_of k_name_of (fun us hl => match us, hl with | [_], _ => rfl)
  have F_is_leaf := fnAt_mk (st := s_is_leaf) (ps := ["one"]) (PySem.W.mg_of X G a_is_leaf) l_is_leaf c_is_leaf k_is_leaf (fun us hl => match us, hl with | [_], _ => rfl)
  have B_is_leaf := tabs "is_leaf" f_is_leaf cc_is_leaf pt_is_leaf _ _ _ _ _ _ r_is_leaf (PySem.W.mg_of X G a_is_leaf) l_is_leaf rfl rfl e_is_leaf p_is_leaf
  have F_is_block := fnAt_mk (st := s_is_block) (ps := ["content"]) (PySem.W.mg_of X G a_is_block) l_is_block c_is_block k_is_block (fun us hl => match us, hl with | [_], _ => rfl)
  have F_is_file := fnAt_mk (st := s_is_file) (ps := ["content"]) (PySem.W.mg_of X G a_is_file) l_is_file c_is_file k_is_file (fun us hl => match us, hl with | [_], _ => rfl)
  have F_is_folder_block := fnAt_mk (st := s_is_folder_block) (ps := ["content"]) (PySem.W.mg_of X G a_is_folder_block) l_is_folder_block c_is_folder_block k_is_folder_block (fun us hl => match us, hl with | [_], _ => rfl)
  have B_is_folder_block := tabs "is_folder_block" f_is_folder_block cc_is_folder_block pt_is_folder_block _ _ _ _ _ _ r_is_folder_block (PySem.W.mg_of X G a_is_folder_block) l_is_folder_block rfl rfl e_is_folder_block p_is_folder_block
  have F_is_code := fnAt_mk (st := s_is_code) (ps := ["number"]) (PySem.W.mg_of X G a_is_code) l_is_code c_is_code k_is_code (fun us hl => match us, hl with | [_], _ => rfl)
  have F_kind_of := fnAt_mk (st := s_kind_of) (ps := ["content"]) (PySem.W.mg_of X G a_kind_of) l_kind_of c_kind_of k_kind_of (fun us hl => match us, hl with | [_], _ => rfl)
  have F_links := fnAt_mk (st := s_links) (ps := ["content"]) (PySem.W.mg_of X G a_links) l_links c_links k_links (fun us hl => match us, hl with | [_], _ => rfl)
  have F_height_of := fnAt_mk (st := s_height_of) (ps := ["many"]) (PySem.W.mg_of X G a_height_of) l_height_of c_height_of k_height_of (fun us hl => match us, hl with | [_], _ => rfl)
  have F_level_sizes := fnAt_mk (st := s_level_sizes) (ps := ["many"]) (PySem.W.mg_of X G a_level_sizes) l_level_sizes c_level_sizes k_level_sizes (fun us hl => match us, hl with | [_], _ => rfl)
  have F_l_mixed := fnAt_mk (st := s_l_mixed) (ps := ["_law_cell", "_law_k"]) (PySem.W.mg_of X G a_l_mixed) l_l_mixed c_l_mixed k_l_mixed (fun us hl => match us, hl with | [_, _], _ => rfl)
  have F_l_draws := fnAt_mk (st := s_l_draws) (ps := ["_law_script"]) (PySem.W.mg_of X G a_l_draws) l_l_draws c_l_draws k_l_draws (fun us hl => match us, hl with | [_], _ => rfl)
  have F_l_next := fnAt_mk (st := s_l_next) (ps := ["_law_drawn"]) (PySem.W.mg_of X G a_l_next) l_l_next c_l_next k_l_next (fun us hl => match us, hl with | [_], _ => rfl)
  have F_l_same := fnAt_mk (st := s_l_same) (ps := ["_law_found", "_law_due"]) (PySem.W.mg_of X G a_l_same) l_l_same c_l_same k_l_same (fun us hl => match us, hl with | [_, _], _ => rfl)
  have F_l_all_same := fnAt_mk (st := s_l_all_same) (ps := ["_law_found", "_law_due"]) (PySem.W.mg_of X G a_l_all_same) l_l_all_same c_l_all_same k_l_all_same (fun us hl => match us, hl with | [_, _], _ => rfl)
  have F_l_code := fnAt_mk (st := s_l_code) (ps := ["_law_number"]) (PySem.W.mg_of X G a_l_code) l_l_code c_l_code k_l_code (fun us hl => match us, hl with | [_], _ => rfl)
  have F_l_tops := fnAt_mk (st := s_l_tops) (ps := ["_law_many"]) (PySem.W.mg_of X G a_l_tops) l_l_tops c_l_tops k_l_tops (fun us hl => match us, hl with | [_], _ => rfl)
  have F_l_places := fnAt_mk (st := s_l_places) (ps := ["_law_drawn", "_law_many"]) (PySem.W.mg_of X G a_l_places) l_l_places c_l_places k_l_places (fun us hl => match us, hl with | [_, _], _ => rfl)
  have F_l_block := fnAt_mk (st := s_l_block) (ps := ["_law_drawn", "_law_way"]) (PySem.W.mg_of X G a_l_block) l_l_block c_l_block k_l_block (fun us hl => match us, hl with | [_, _], _ => rfl)
  have F_l_links := fnAt_mk (st := s_l_links) (ps := ["_law_content"]) (PySem.W.mg_of X G a_l_links) l_l_links c_l_links k_l_links (fun us hl => match us, hl with | [_], _ => rfl)
  have F_l_height := fnAt_mk (st := s_l_height) (ps := ["_law_many"]) (PySem.W.mg_of X G a_l_height) l_l_height c_l_height k_l_height (fun us hl => match us, hl with | [_], _ => rfl)
  have F_l_files := fnAt_mk (st := s_l_files) (ps := []) (PySem.W.mg_of X G a_l_files) l_l_files c_l_files k_l_files (fun us hl => match us, hl with | [], _ => rfl)
  have F_law := fnAt_mk (st := s_law) (ps := ["_law_script"]) (PySem.W.mg_of X G a_law) l_law c_law k_law (fun us hl => match us, hl with | [_], _ => rfl)
  have x_NoName : ExcI l.prog K mg "NoName" C_NoName := by
    obtain ⟨p2, p3, sh⟩ := sh_NoName
    exact ⟨PySem.W.mg_of X G xm_NoName, xq_NoName, xk_NoName, xs_NoName, xt_NoName, xi_NoName, xf_NoName, xv_NoName, xu_NoName, xr_NoName, y_op, PySem.W.mg_none_of X G y_super, y_ps, fI_NoName, xg_NoName, xh_NoName, _, _, s_NoName_init, p2, p3, _, _, _, _, _, _, _, _, _, _, _, _, _, _, _, _, _, _, sh, xl_NoName, xc_NoName, xd_NoName, xw_NoName, xy_NoName, xe_NoName⟩
  have T : Txt K mg := ⟨PySem.W.mg_none_of X G z_abs, PySem.W.mg_none_of X G z_all, PySem.W.mg_none_of X G z_bool, PySem.W.mg_none_of X G z_divmod, PySem.W.mg_none_of X G z_int, PySem.W.mg_none_of X G z_isinstance, PySem.W.mg_none_of X G z_len, PySem.W.mg_none_of X G z_list, PySem.W.mg_none_of X G z_min, PySem.W.mg_none_of X G z_range, PySem.W.mg_none_of X G z_reversed, PySem.W.mg_none_of X G z_set, PySem.W.mg_none_of X G z_sorted, PySem.W.mg_none_of X G z_str, PySem.W.mg_none_of X G z_tuple, PySem.W.mg_none_of X G z_zip, ⟨_, PySem.W.mg_of X G z_BUNDLE, ⟨_, rfl⟩⟩, ⟨_, PySem.W.mg_of X G z_LETTERS, ⟨_, rfl⟩⟩, ⟨_, PySem.W.mg_of X G z_MOST_LEAVES, ⟨_, rfl⟩⟩, ⟨_, PySem.W.mg_of X G z_MOST_NUMBERS, ⟨_, rfl⟩⟩, ⟨_, PySem.W.mg_of X G z_MOST_THINGS, ⟨_, rfl⟩⟩⟩
  have hK : KindsE K mg aK := ⟨⟨_, PySem.W.mg_of X G z_KINDS, rfl⟩, fun H => .inr ⟨_, _, _, w_KINDS, rfl, rfl, by show 4 ≤ sizeLine; decide, .cons ⟨_, rfl⟩ (.cons ⟨_, rfl⟩ (.cons ⟨_, rfl⟩ (.cons ⟨_, rfl⟩ .nil)))⟩⟩
  refine law_at (cs := [(cc_is_content, pt_is_content), (cc_is_leaf, pt_is_leaf), (cc_is_folder_block, pt_is_folder_block)]) (sp := spLaw K [pt_is_content, pt_is_leaf, pt_is_folder_block]) (q := q) hfa F_law ?_ (fun kV doc pm an ct s u => .of_eq rfl) (fun H a ns h1 _ h3 h4 => ⟨a, ns, rfl, h4, h1, h3, fun _ => rfl⟩) (fun base _ _ TB => ?_)
  · intro p hp
    simp only [List.mem_cons, List.not_mem_nil, or_false] at hp
    rcases hp with rfl | rfl | rfl
    · exact ⟨B_is_content.1, B_is_content.2, o_is_content⟩
    · exact ⟨B_is_leaf.1, B_is_leaf.2, o_is_leaf⟩
    · exact ⟨B_is_folder_block.1, B_is_folder_block.2, o_is_folder_block⟩
  · generalize htb : [pt_is_content, pt_is_leaf, pt_is_folder_block] = tb
    have m1 : pt_is_content ∈ tb := by rw [← htb]; simp
    have m2 : pt_is_leaf ∈ tb := by rw [← htb]; simp
    have m3 : pt_is_folder_block ∈ tb := by rw [← htb]; simp
    have c1 := ok_is_number (P := l.prog) (w := w) (base := base) T F_is_number
    have c2 := ok_is_number_to F_is_number_to c1
    have c3 := ok_is_content (P := l.prog) (w := w) (tb := tb) T (TB (cc_is_content, pt_is_content) (by simp)) m1 F_is_content c1
    have c4 := ok_name_of (P := l.prog) (w := w) (tb := tb) T x_NoName F_name_of c1
    have c5 := ok_is_leaf (P := l.prog) (w := w) (tb := tb) T (TB (cc_is_leaf, pt_is_leaf) (by simp)) m2 F_is_leaf c2
    have c6 := ok_is_code (P := l.prog) (w := w) (tb := tb) x_NoName F_is_code c4
    have c7 := ok_kind_of (P := l.prog) (w := w) (base := base) hK F_kind_of
    have c8 := ok_links (tb := tb) T F_links c7
    have c9 := ok_height_of (P := l.prog) (w := w) (base := base) T F_height_of
    have c10 := ok_level_sizes (tb := tb) T F_level_sizes c9
    have c11 := ok_is_file T F_is_file c8 c10
    have c12 := ok_is_folder_block (P := l.prog) (w := w) (tb := tb) T (TB (cc_is_folder_block, pt_is_folder_block) (by simp)) m3 F_is_folder_block c8 c6
    have c13 := ok_is_block T hK F_is_block c3 c7 c5 c8 c11 c12
    have d1 := ok_l_mixed (P := l.prog) (w := w) (base := base) F_l_mixed
    have d2 := ok_l_draws (tb := tb) T F_l_draws d1
    have d3 := ok_l_next (P := l.prog) (w := w) (base := base) (tb := tb) F_l_next
    have d4 := ok_sames (P := l.prog) (w := w) (base := base) (tb := tb) T F_l_same F_l_all_same 1
    have d5 := ok_l_code (P := l.prog) (w := w) (base := base) T F_l_code
    have d6 := ok_l_tops (P := l.prog) (w := w) (base := base) F_l_tops
    have d7 := ok_l_places T F_l_places d3
    have d8 := ok_l_block T F_l_block d3 d7 d6 d5
    have d9 := ok_l_links (P := l.prog) (w := w) (base := base) (tb := tb) T F_l_links
    have d10 := ok_l_height (P := l.prog) (w := w) (base := base) (tb := tb) F_l_height
    have d11 := ok_l_files T F_l_files d6 d4 c9 d10 c13
    exact ok_law T d2 d3 d8 c13 d4 c8 d9 c7 d11
end K18
open PySem PySem.W PyProof.Rows
set_option maxRecDepth 100000 in
set_option maxHeartbeats 0 in
theorem PySem.Challenge.cw_snapshelf_k18_blocks_holds : PySem.Challenge.rw_snapshelf_k18_blocks.Holds := by
  w_on; o_law; k_head; (case hw => w_witness2)
  k_fill
  refine HK.walk_tabs (l := PySem.Challenge.rw_snapshelf_k18_blocks) (n := 63) (k := 8) (x := "_law_script") (CX := fun _ => L2.CX0) rfl (by decide) rfl ⟨rfl, by decide, by decide⟩ (fun w h Y => PySem.W.kIn_of Y) ?F (fun _ _ _ _ _ h => h)
  case F =>
    intro w mg fa h Y KX G hmg tabs
    refine' K18.all_mk KX G hmg tabs ?a_is_number ?l_is_number ?c_is_number ?k_is_number ?a_is_number_to ?l_is_number_to ?c_is_number_to ?k_is_number_to ?a_is_content ?l_is_content ?c_is_content ?k_is_content ?e_is_content ?p_is_content ?o_is_content ?r_is_content ?a_name_of ?l_name_of ?c_name_of ?k_name_of ?a_is_leaf ?l_is_leaf ?c_is_leaf ?k_is_leaf ?e_is_leaf ?p_is_leaf ?o_is_leaf ?r_is_leaf ?a_is_block ?l_is_block ?c_is_block ?k_is_block ?a_is_file ?l_is_file ?c_is_file ?k_is_file ?a_is_folder_block ?l_is_folder_block ?c_is_folder_block ?k_is_folder_block ?e_is_folder_block ?p_is_folder_block ?o_is_folder_block ?r_is_folder_block ?a_is_code ?l_is_code ?c_is_code ?k_is_code ?a_kind_of ?l_kind_of ?c_kind_of ?k_kind_of ?a_links ?l_links ?c_links ?k_links ?a_height_of ?l_height_of ?c_height_of ?k_height_of ?a_level_sizes ?l_level_sizes ?c_level_sizes ?k_level_sizes ?a_l_mixed ?l_l_mixed ?c_l_mixed ?k_l_mixed ?a_l_draws ?l_l_draws ?c_l_draws ?k_l_draws ?a_l_next ?l_l_next ?c_l_next ?k_l_next ?a_l_same ?l_l_same ?c_l_same ?k_l_same ?a_l_all_same ?l_l_all_same ?c_l_all_same ?k_l_all_same ?a_l_code ?l_l_code ?c_l_code ?k_l_code ?a_l_tops ?l_l_tops ?c_l_tops ?k_l_tops ?a_l_places ?l_l_places ?c_l_places ?k_l_places ?a_l_block ?l_l_block ?c_l_block ?k_l_block ?a_l_links ?l_l_links ?c_l_links ?k_l_links ?a_l_height ?l_l_height ?c_l_height ?k_l_height ?a_l_files ?l_l_files ?c_l_files ?k_l_files ?a_law ?l_law ?c_law ?k_law ?xm_NoName ?xq_NoName ?xk_NoName ?xs_NoName ?xt_NoName ?xi_NoName ?xf_NoName ?xv_NoName ?xu_NoName ?xr_NoName ?xg_NoName ?xh_NoName ?xl_NoName ?xc_NoName ?xd_NoName ?xw_NoName ?xy_NoName ?xe_NoName ?y_op ?y_super ?y_ps ?z_abs ?z_all ?z_bool ?z_divmod ?z_int ?z_isinstance ?z_len ?z_list ?z_min ?z_range ?z_reversed ?z_set ?z_sorted ?z_str ?z_tuple ?z_zip ?z_BUNDLE ?z_LETTERS ?z_MOST_LEAVES ?z_MOST_NUMBERS ?z_MOST_THINGS ?z_KINDS ?w_KINDS
    (case a_is_number => k_is)
    (case l_is_number => k_is)
    (case c_is_number => k_is)
    (case k_is_number => k_is)
    (case a_is_number_to => k_is)
    (case l_is_number_to => k_is)
    (case c_is_number_to => k_is)
    (case k_is_number_to => k_is)
    (case a_is_content => k_is)
    (case l_is_content => k_is)
    (case c_is_content => k_is)
    (case k_is_content => k_is)
    (case e_is_content => k_is)
    (case p_is_content => rfl)
    (case o_is_content => first | k_is | rfl | decide +kernel)
    (case r_is_content => decide +kernel)
    (case a_name_of => k_is)
    (case l_name_of => k_is)
    (case c_name_of => k_is)
    (case k_name_of => k_is)
    (case a_is_leaf => k_is)
    (case l_is_leaf => k_is)
    (case c_is_leaf => k_is)
    (case k_is_leaf => k_is)
    (case e_is_leaf => k_is)
    (case p_is_leaf => rfl)
    (case o_is_leaf => first | k_is | rfl | decide +kernel)
    (case r_is_leaf => decide +kernel)
    (case a_is_block => k_is)
    (case l_is_block => k_is)
    (case c_is_block => k_is)
    (case k_is_block => k_is)
    (case a_is_file => k_is)
    (case l_is_file => k_is)
    (case c_is_file => k_is)
    (case k_is_file => k_is)
    (case a_is_folder_block => k_is)
    (case l_is_folder_block => k_is)
    (case c_is_folder_block => k_is)
    (case k_is_folder_block => k_is)
    (case e_is_folder_block => k_is)
    (case p_is_folder_block => rfl)
    (case o_is_folder_block => first | k_is | rfl | decide +kernel)
    (case r_is_folder_block => decide +kernel)
    (case a_is_code => k_is)
    (case l_is_code => k_is)
    (case c_is_code => k_is)
    (case k_is_code => k_is)
    (case a_kind_of => k_is)
    (case l_kind_of => k_is)
    (case c_kind_of => k_is)
    (case k_kind_of => k_is)
    (case a_links => k_is)
    (case l_links => k_is)
    (case c_links => k_is)
    (case k_links => k_is)
    (case a_height_of => k_is)
    (case l_height_of => k_is)
    (case c_height_of => k_is)
    (case k_height_of => k_is)
    (case a_level_sizes => k_is)
    (case l_level_sizes => k_is)
    (case c_level_sizes => k_is)
    (case k_level_sizes => k_is)
    (case a_l_mixed => k_is)
    (case l_l_mixed => k_is)
    (case c_l_mixed => k_is)
    (case k_l_mixed => k_is)
    (case a_l_draws => k_is)
    (case l_l_draws => k_is)
    (case c_l_draws => k_is)
    (case k_l_draws => k_is)
    (case a_l_next => k_is)
    (case l_l_next => k_is)
    (case c_l_next => k_is)
    (case k_l_next => k_is)
    (case a_l_same => k_is)
    (case l_l_same => k_is)
    (case c_l_same => k_is)
    (case k_l_same => k_is)
    (case a_l_all_same => k_is)
    (case l_l_all_same => k_is)
    (case c_l_all_same => k_is)
    (case k_l_all_same => k_is)
    (case a_l_code => k_is)
    (case l_l_code => k_is)
    (case c_l_code => k_is)
    (case k_l_code => k_is)
    (case a_l_tops => k_is)
    (case l_l_tops => k_is)
    (case c_l_tops => k_is)
    (case k_l_tops => k_is)
    (case a_l_places => k_is)
    (case l_l_places => k_is)
    (case c_l_places => k_is)
    (case k_l_places => k_is)
    (case a_l_block => k_is)
    (case l_l_block => k_is)
    (case c_l_block => k_is)
    (case k_l_block => k_is)
    (case a_l_links => k_is)
    (case l_l_links => k_is)
    (case c_l_links => k_is)
    (case k_l_links => k_is)
    (case a_l_height => k_is)
    (case l_l_height => k_is)
    (case c_l_height => k_is)
    (case k_l_height => k_is)
    (case a_l_files => k_is)
    (case l_l_files => k_is)
    (case c_l_files => k_is)
    (case k_l_files => k_is)
    (case a_law => k_is)
    (case l_law => k_is)
    (case c_law => k_is)
    (case k_law => k_is)
    (case xm_NoName => k_is)
    (case xq_NoName => first | kx_is | kernel_rfl)
    (case xk_NoName => k_is)
    (case xs_NoName => k_is)
    (case xt_NoName => k_is)
    (case xi_NoName => k_is)
    (case xf_NoName => first | rfl | k_is)
    (case xv_NoName => k_is)
    (case xu_NoName => first | ks_is | kernel_rfl)
    (case xr_NoName => first | k_is | rfl)
    (case xg_NoName => k_is)
    (case xh_NoName => k_is)
    (case xl_NoName => first | k_is | rfl)
    (case xc_NoName => k_is)
    (case xd_NoName => first | k_is | rfl)
    (case xw_NoName => rfl)
    (case xy_NoName => first | rfl | decide +kernel)
    (case xe_NoName => first | k_is | rfl)
    (case y_op => k_is)
    (case y_super => k_is)
    (case y_ps => first | rfl | decide +kernel)
    (case z_abs => k_is)
    (case z_all => k_is)
    (case z_bool => k_is)
    (case z_divmod => k_is)
    (case z_int => k_is)
    (case z_isinstance => k_is)
    (case z_len => k_is)
    (case z_list => k_is)
    (case z_min => k_is)
    (case z_range => k_is)
    (case z_reversed => k_is)
    (case z_set => k_is)
    (case z_sorted => k_is)
    (case z_str => k_is)
    (case z_tuple => k_is)
    (case z_zip => k_is)
    (case z_BUNDLE => k_is)
    (case z_LETTERS => k_is)
    (case z_MOST_LEAVES => k_is)
    (case z_MOST_NUMBERS => k_is)
    (case z_MOST_THINGS => k_is)
    (case z_KINDS => k_is)
    (case w_KINDS => k_is)
