import PyProof.Rows.All
import Wide.All
import OpenK.AllK
import Wide.FinOn
import HandS.AnyAll
import HandS.GenBody
import HandS.GenCall
import HandS.GenList
import HandS.GenOver
import HandS.ForMost
import HandS.Deep
import HandS.Walk
import HandS.TupAny
import HandS.Conv
import HandS.IsInst
import HandS.Style
import HandS.Wide
import HandS.SortRule
import KE.SortData
import KE.DataMinMax
import KE.GoesEnum
import HandS.Zip
import HandS.SetFor
import HandS.Gcd
import KE.KMathGC
import OpenK.KMore
import KE.KIndexOf
import HandS.TupSets
import KE.DataCmp
import HandS.TupMul
import KE.KTupSum
import KE.Datum
import HandS.EndTab
import HandS.EndOwn
import PySem.Challenge.RW_starlands_k37_across_greater_islands
set_option Elab.async false
set_option linter.all false
set_option maxRecDepth 90000
set_option maxHeartbeats 3900000
/-! all(..) of a generator expression over anything that a for walks, its element any expression that gives a bool -/
namespace LG
open PySem PySem.Spec PyProof.Rows L2

/-- the generator expression's own scope: no cells; captured names are cells of the def; its own names have places -/
structure GOk (N : List Str) (sc scope : Scope) (own : List (Str × Nat)) : Prop where
  blk : BlkOk N sc scope own
  nocell : ∀ y ∈ scope.names, y.2 ≠ NameKind.cell
  dot : scope.names.lookup (".0" : Str) = some NameKind.local
  co : scope.isCoroutine = false

abbrev gAr (X : Cx) (gE : Expr) (it : Value) (ge : Env) : Around := (X.A.in1.in1).over (.compLoop gE 0 it .none ge) []
/-- the context in which a turn of the generator runs -/
abbrev gcx (X : Cx) (s : Shared) (H : Hp) (scope : Scope) (A' : Around) (ge : Env) (fp : List Addr) : Cx :=
  { X with A := A', s_0 := s, H_0 := H, env := ge, outer := X.stack, stack := ge :: X.stack, ex := fp, fn := fun x => scope.names.lookup x == some .cell, pn := [], xe := fun _ _ => False }
abbrev gEnvOf (X : Cx) (scope : Scope) (C : Addr) (code : Value) : Env := genEnv scope (cloFrom X.env.cells scope.names []) C code builtinsNs X.env

section
variable {X : Cx} {pins : List (Addr × Obj)} {σ : L2.St} {H : Hp} {s : Shared}

theorem gAr_frames {elt : Expr} {gs : List Comprehension} {scope : Scope} {gp : Pos} {it : Value} {ge : Env} {l : List Env} (h : X.A.frames = some l) : (gAr X (.GeneratorExp elt gs scope gp) it ge).frames = some (ge :: l) := by
  have h2 : X.A.in1.in1.frames = some l := h
  simp [gAr, Around.over, envsOf, pushEnvs, Code.envs, Code.isFrame, h2]
  rw [h]
  rfl

theorem gen_start {scope : Scope} {own : List (Str × Nat)} {fp : List Addr} {A' : Around} {code : Value} {h' : Heap} {m0 : Str → Option Value} {g' : Array GenState} {tk : Nat}
    (I : Inv X pins σ H s) (ok : GOk X.N X.env.scope scope own) (hN : X.N.Nodup) (hfp : ∀ b ∈ fp, FpOk X pins H b ∧ b < s.heap.objs.size)
    (hA : A'.handled = X.A.handled) (hF : A'.frames = some (gEnvOf X scope s.heap.objs.size code :: X.stack))
    (hk : ∀ b o, s.heap.get? b = some o → h'.get? b = some o) (hns : h'.Ns s.heap.objs.size m0) (hg : AllBare g') :
    Inv (gcx X s H scope A' (gEnvOf X scope s.heap.objs.size code) fp) [] (wipe σ (own.map (·.2))) H { s with heap := h', gens := g', toks := tk } := by
  have captured : ∀ {y c}, (gEnvOf X scope s.heap.objs.size code).cells.lookup y = some c → X.env.cells.lookup y = some c := fun {y c} e => by
    rcases cloFrom_mem (PySem.mem_of_lookup (show (cloFrom X.env.cells scope.names []).lookup y = some c from e)) with hm | ⟨h1, rfl⟩
    · cases hm
    · obtain ⟨c, hc⟩ : ∃ c, X.env.cells.lookup y = some c := by
        rcases ok.blk.free _ h1 rfl with q | q
        · exact I.ok.has _ (.inl q)
        · exact I.ok.has _ (.inr q)
      rw [hc]
      rfl
  have cellOld : ∀ {y c}, (gEnvOf X scope s.heap.objs.size code).cells.lookup y = some c → c < s.heap.objs.size := fun {y c} e => by
    obtain ⟨v, z⟩ := I.cell _ _ (captured e)
    exact z.lt
  have found : ∀ {y}, scope.names.lookup y = some .free → ∃ c, (gEnvOf X scope s.heap.objs.size code).cells.lookup y = some c ∧ X.env.cells.lookup y = some c := fun {y} hl => by
    obtain ⟨c, e⟩ := mem_lookup (cloFrom_has (cells := X.env.cells) (acc := []) (PySem.mem_of_lookup hl))
    exact ⟨c, e, captured e⟩
  have notCell : ∀ {y}, scope.names.lookup y ≠ some .cell := fun {y} e => ok.nocell _ (PySem.mem_of_lookup e) rfl
  have okG : (gcx X s H scope A' (gEnvOf X scope s.heap.objs.size code) fp).Ok := by
    refine ⟨I.ok.mod, ok.blk.kind, I.ok.glob, rfl, Nat.le_refl _, fun y z c e1 e2 => I.ok.inj y z c (captured e1) (captured e2), fun y hy => ?_, fun y c z e => ?_, fun hc => hA.trans (I.ok.hd hc), hF, .inr ⟨rfl, rfl⟩, fun b hb => ⟨Nat.ne_of_lt (hfp b hb).2, fun y c e z => (hfp b hb).1.2.2.2.2.1 y c (captured e) z⟩, I.bs, Nat.le_trans I.ok.bsz I.sz, fun b o e hb => ?_, fun b hb z => ?_, I.stack, I.stkFree⟩
    · rcases hy with hy | hy
      · exact absurd hy notCell
      · obtain ⟨c, e, _⟩ := found hy
        exact ⟨c, e⟩
    · have z' : (scope.names.lookup y == some NameKind.cell) = true := z
      exact absurd (by simpa using z') (notCell (y := y))
    · rcases (hfp b hb).1.2.2.2.1 with z | z
      · exact I.ok.noex b o e z
      · have lt := Nat.lt_of_lt_of_le (Heap.lt_size e) (Nat.le_trans I.ok.bsz z)
        exact absurd lt (Nat.lt_irrefl _)
    · rcases List.mem_cons.mp (I.stkSub b z) with q | q
      · exact (hfp b hb).1.2.1 q
      · exact (hfp b hb).1.2.2.1 q
  refine ⟨okG, rfl, hg, Un.kept hk, ⟨m0, hns, fun i y av e1 e2 e3 => ?_⟩, fun y c e => ?_, I.hok.fresh (Nat.le_refl _), fun y c e => I.freeC y c (captured e), fun p hp => absurd (show p ∈ ([] : List (Addr × Obj)) ++ [] from hp) (by simp), I.hok.kept hk, by rw [wipe_length]; exact I.len⟩
  · obtain ⟨e2, hne⟩ := wipe_some e2
    have hfr : scope.names.lookup y = some .free := by
      have no : ∀ k, scope.names.lookup y = some k → ¬ (k = .local ∨ k = .cell) := fun k e hh => by
        rcases ok.blk.own _ (PySem.mem_of_lookup e) hh with q | q
        · obtain ⟨p, hp, hpy⟩ := List.mem_map.mp q
          have ei := ok.blk.ix p hp
          rw [show p.1 = y from hpy] at ei
          exact hne (List.mem_map.mpr ⟨p, hp, nodup_ix hN ei e1⟩)
        · exact q (List.mem_of_getElem? e1)
      rcases e3 with e3 | e3 | e3
      · exact absurd (.inl rfl) (no _ e3)
      · exact absurd (.inr rfl) (no _ e3)
      · exact e3
    obtain ⟨m, hn, hl⟩ := I.loc
    have vis : Vis X.env.scope y := by
      rcases ok.blk.free _ (PySem.mem_of_lookup hfr) rfl with k | k
      · exact .inr (.inl k)
      · exact .inr (.inr k)
    obtain ⟨u, r, q⟩ := hl i y av e1 e2 vis
    obtain ⟨c, h1, h2⟩ := found hfr
    refine ⟨u, r, .inr ⟨.inr hfr, c, h1, ?_⟩⟩
    rcases q with ⟨k, _⟩ | ⟨_, c', e', z⟩
    · have k : X.env.scope.names.lookup y = some .local := k
      rcases ok.blk.free _ (PySem.mem_of_lookup hfr) rfl with k' | k'
      · rw [show X.env.scope.names.lookup y = _ from k'] at k
        cases k
      · rw [show X.env.scope.names.lookup y = _ from k'] at k
        cases k
    · rw [h2] at e'
      cases e'
      exact z.keeps hk
  · obtain ⟨w, z⟩ := I.cell y c (captured e)
    exact ⟨w, z.keeps hk⟩

/-! ### the turns -/
/-- what is fixed through the turns: n of them; Pv ahead of each; Qf behind a false one, Qt behind the last -/
structure Plan (G : Cx) (vs : List Nat) (σ0 : L2.St) (tg elt : Expr) (J : It) (fp : List Addr) (it : Addr) (tn : Nat → Heap → Prop) (a : Addr) (go : Obj) (n : Nat) (Pv : Nat → Hp → Prop) (Qf Qt : Hp → Prop) : Prop where
  calm : G.calm = true
  turn : Turn G.prog G.w G.K tg J fp it tn
  hand : G.A.handled = none
  ng : ∀ b ∈ fp, a ≠ b
  step : ∀ i H, i < n → Pv i H → J.go i H
  ends : ∀ H, Pv n H → J.stop n H ∧ Qt H
  xex : G.ex = fp
  xpn : G.pn = []
  co : G.env.scope.isCoroutine = false
  body : ∀ i (H H' : Hp) (x : V) (s : Shared) (u : Value) (pins : List (Addr × Obj)) (E : Value → Shared → Prop), i < n → Pv i H → J.yld i H x H' → Inv G pins σ0 H' s → RelV x u →
    wpAny (model G.prog G.w) G.A (assign tg G.env u) (fun _ s2 => wpAny (model G.prog G.w) G.A (eval elt G.env) (fun y s3 => ∃ (b : Bool) (H3 : Hp), y = .bool b ∧ Inv G pins σ0 H3 s3 ∧ (b = true → Pv (i + 1) H3) ∧ (b = false → Qf H3)) E s2) E s

section
variable {G : Cx} {vs : List Nat} {σ0 : L2.St} {tg elt iter : Expr} {J : It} {fp : List Addr} {it a : Addr} {tn : Nat → Heap → Prop} {go : Obj} {n gn : Nat} {Pv : Nat → Hp → Prop} {Qf Qt : Hp → Prop} {A1 : Around} {scope : Scope} {gp : Pos}

/-- between two turns -/
def Mid (G : Cx) (σ0 : L2.St) (fp : List Addr) (tn : Nat → Heap → Prop) (a : Addr) (go : Obj) (gn i : Nat) (P : Hp → Prop) (s : Shared) : Prop :=
  ∃ H, Inv G [(a, go)] σ0 H s ∧ tn i s.heap ∧ (∀ b ∈ fp, H b = none) ∧ gn < s.gens.size ∧ P H

theorem inv_gens {G : Cx} {pins : List (Addr × Obj)} {σ0 : L2.St} {H : Hp} {s s' : Shared} (I : Inv G pins σ0 H s) (eh : s'.heap = s.heap) (eo : s'.os = s.os) (eb : AllBare s'.gens) : Inv G pins σ0 H s' := by
  refine ⟨I.ok, eo.trans I.os, eb, ?_, ?_, ?_, I.free, I.freeC, ?_, ?_, I.len⟩
  · rw [eh]; exact I.base
  · rw [eh]; exact I.loc
  · rw [eh]; exact I.cell
  · rw [eh]; exact I.pin
  · rw [eh]; exact I.hok
theorem Mid.gens {i : Nat} {P : Hp → Prop} {s s' : Shared} (h : Mid G σ0 fp tn a go gn i P s) (eh : s'.heap = s.heap) (eo : s'.os = s.os) (eb : AllBare s'.gens) (es : gn < s'.gens.size) : Mid G σ0 fp tn a go gn i P s' := by
  obtain ⟨H, I, t, f, g, p⟩ := h
  exact ⟨H, inv_gens I eh eo eb, by rw [eh]; exact t, f, es, p⟩

def yP (G : Cx) (σ0 : L2.St) (fp : List Addr) (tn : Nat → Heap → Prop) (a : Addr) (go : Obj) (gn n : Nat) (Pv : Nat → Hp → Prop) (Qf : Hp → Prop) : Protocol := fun m _ v s kap =>
  ∃ (i : Nat) (b : Bool), v = .bool b ∧ i < n ∧ i + m = n ∧ (b = false → Mid G σ0 fp tn a go gn (i + 1) Qf s) ∧
    (b = true → Mid G σ0 fp tn a go gn (i + 1) (Pv (i + 1)) s ∧ ∀ s'' : Shared, s''.heap = s.heap → s''.os = s.os → AllBare s''.gens → gn < s''.gens.size → kap (.send .none) s'')
def rP (G : Cx) (σ0 : L2.St) (fp : List Addr) (tn : Nat → Heap → Prop) (a : Addr) (go : Obj) (gn : Nat) (Qt : Hp → Prop) : Nat → Shared → Shared → Prop := fun m _ s => m = 1 ∧ ∃ H, Inv G [(a, go)] σ0 H s ∧ gn < s.gens.size ∧ Qt H

theorem fpok {σ' : L2.St} {H' : Hp} {s' : Shared} (P : Plan G vs σ0 tg elt J fp it tn a go n Pv Qf Qt) (I' : Inv G [(a, go)] σ' H' s') (hn : ∀ b ∈ fp, H' b = none) : ∀ b ∈ fp, FpOk G [(a, go)] H' b := fun b hb => by
  have hx : b ∈ G.ex := by rw [P.xex]; exact hb
  refine ⟨hn b hb, (I'.ok.exf b hx).1, I'.ok.exfs b hx, .inl hx, fun x c e => (I'.ok.exf b hx).2 x c e, fun p hp => ?_⟩
  rw [P.xpn] at hp
  have e : p = (a, go) := by simpa using hp
  rw [e]
  exact P.ng b hb

theorem seg_turns (P : Plan G vs σ0 tg elt J fp it tn a go n Pv Qf Qt) (hA : A1.over (.compLoop (.GeneratorExp elt [⟨tg, iter, [], 0⟩] scope gp) 0 (.ref it) .none G.env) [] = G.A) :
    ∀ (k i : Nat) (s₀ s : Shared), n - i = k → i ≤ n → Mid G σ0 fp tn a go gn i (Pv i) s →
      Seg (model G.prog G.w) A1 (fun m s₀ r s₁ => r = .ok .next ∧ rP G σ0 fp tn a go gn Qt m s₀ s₁) (yP G σ0 fp tn a go gn n Pv Qf) (n - i + 1) s₀
        (.compLoop (.GeneratorExp elt [⟨tg, iter, [], 0⟩] scope gp) 0 (.ref it) .none G.env)
        ((model G.prog G.w).den (.compLoop (.GeneratorExp elt [⟨tg, iter, [], 0⟩] scope gp) 0 (.ref it) .none G.env)) [] s := by
  intro k
  induction k with
  | zero =>
    intro i s₀ s hk hi ⟨H, I, ht, hf, hg, hp⟩
    have hin : i = n := by omega
    subst hin
    show Seg _ A1 _ _ _ s₀ _ ((compTurn (.GeneratorExp elt [⟨tg, iter, [], 0⟩] scope gp) 0 (.ref it) .none G.env).onRaise (leaving G.env)) [] s
    rw [compTurn_gen, Sem.onRaise_eq_wrap]
    refine seg_bind_wrap (wpAny_standAt ?_)
    refine seg_bind_wrap ?_
    rw [hA]
    refine GenW.wpAny_gsz (n := gn + 1) hg ?_
    refine wpAny_mono (P.turn.done G rfl rfl rfl P.calm i _ s _ H (fun _ _ => False) I (fpok P I hf) ht (P.ends H hp).1) (fun r s1 ⟨hr, I1⟩ hsz => ?_) fun _ _ z => z.elim
    subst hr
    refine seg_end (.ok .next) ⟨rfl, by omega, H, I1, hsz, (P.ends H hp).2⟩
  | succ k ih =>
    intro i s₀ s hk hi ⟨H, I, ht, hf, hg, hp⟩
    have hlt : i < n := by omega
    obtain ⟨m, hm⟩ : ∃ m, n - i = m + 1 := ⟨n - i - 1, by omega⟩
    rw [hm]
    show Seg _ A1 _ _ _ s₀ _ ((compTurn (.GeneratorExp elt [⟨tg, iter, [], 0⟩] scope gp) 0 (.ref it) .none G.env).onRaise (leaving G.env)) [] s
    rw [compTurn_gen, Sem.onRaise_eq_wrap]
    refine seg_bind_wrap (wpAny_standAt ?_)
    refine seg_bind_wrap ?_
    rw [hA]
    refine GenW.wpAny_gsz (n := gn + 1) hg ?_
    refine wpAny_mono (P.turn.item G rfl rfl rfl P.calm i _ s _ H (fun _ _ => False) I (fpok P I hf) ht (P.step i H hlt hp)) (fun r s1 ⟨u, hr, h1⟩ hs1 => ?_) fun _ _ z => z.elim
    subst hr
    refine seg_bind_wrap ?_
    rw [hA]
    refine GenW.wpAny_gsz (n := gn + 1) hs1 ?_
    refine wpAny_mono h1 (fun _ s2 ⟨x, H2, I2, r2, y2, t2, f2⟩ hs2 => ?_) fun _ _ z => z.elim
    refine seg_bind_wrap ?_
    rw [hA]
    have I2p := I2.pinned (fpok P I2 f2) (P.turn.obj _ _ t2)
    refine GenW.wpAny_gsz (n := gn + 1) hs2 ?_
    refine wpAny_mono (P.body i H H2 x s2 u _ (fun _ _ => False) hlt hp y2 I2p r2) (fun _ s3 h3 hs3 => ?_) fun _ _ z => z.elim
    refine seg_bind_wrap (wpAny_tests_nil ?_)
    simp only [if_true]
    have hy : ∀ v, yieldOut G.env v = yieldValue v := fun v => by simp only [yieldOut, P.co, Bool.false_eq_true, if_false]
    simp only [hy]
    rw [Sem.bind_eq_wrap', Sem.bind_eq_wrap', Sem.wrap_wrap, Sem.wrap_wrap]
    refine seg_wrap ?_
    rw [hA]
    refine GenW.wpAny_gsz (n := gn + 1) hs3 ?_
    refine wpAny_mono h3 (fun y s4 ⟨b, H4, e4, I4, pt, pf⟩ hs4 => ?_) fun _ _ z => z.elim
    subst e4
    have pin' : ∀ c ∈ fp, ∀ o, s2.heap.get? c = some o → s4.heap.get? c = some o ∧ H4 c = none := fun c hc o e =>
      let z := I4.pin (c, o) (List.mem_append_right _ (List.mem_append_right _ (mem_pinsAt hc e)))
      ⟨z.1, z.2.1⟩
    have mid : ∀ (Q : Hp → Prop), Q H4 → Mid G σ0 fp tn a go gn (i + 1) Q s4 := fun Q q =>
      ⟨H4, I4.unpinned, P.turn.keep _ _ _ t2 fun c hc o e => (pin' c hc o e).1, fun c hc => by
        obtain ⟨o, e, _⟩ := P.turn.obj _ _ t2 c hc
        exact (pin' c hc o e).2, hs4, q⟩
    refine seg_at (seg_yield rfl rfl rfl ⟨i, b, rfl, hlt, by omega, fun hb => mid Qf (pf hb), fun hb => ⟨mid _ (pt hb), fun s'' e1 e2 e3 e4 => ?_⟩⟩)
    refine seg_again rfl ?_
    have em : m + 1 = n - (i + 1) + 1 := by omega
    rw [em]
    exact ih (i + 1) s'' s'' (by omega) hlt ((mid _ (pt hb)).gens e1 e2 e3 e4)

theorem seg_first (P : Plan G vs σ0 tg elt J fp it tn a go n Pv Qf Qt) (hA : A1.over (.compLoop (.GeneratorExp elt [⟨tg, iter, [], 0⟩] scope gp) 0 (.ref it) .none G.env) [] = G.A)
    (s₀ s : Shared) (h : Mid G σ0 fp tn a go gn 0 (Pv 0) s) :
    Seg (model G.prog G.w) A1 (fun m s₀ r s₁ => r = .ok .next ∧ rP G σ0 fp tn a go gn Qt m s₀ s₁) (yP G σ0 fp tn a go gn n Pv Qf) (n + 1) s₀
      (.compStart (.GeneratorExp elt [⟨tg, iter, [], 0⟩] scope gp) 0 (.ref it) .none G.env)
      ((model G.prog G.w).den (.compStart (.GeneratorExp elt [⟨tg, iter, [], 0⟩] scope gp) 0 (.ref it) .none G.env)) [] s := by
  have loop := seg_turns (iter := iter) (scope := scope) (gp := gp) P hA n 0 s₀ s (Nat.sub_zero _) (Nat.zero_le _) h
  rw [Nat.sub_zero] at loop
  obtain ⟨H, I, ht, _⟩ := h
  show Seg _ A1 _ _ _ s₀ _ ((compStart (.GeneratorExp elt [⟨tg, iter, [], 0⟩] scope gp) 0 (.ref it) .none G.env).onRaise (leaving G.env)) [] s
  unfold compStart
  rw [Sem.onRaise_eq_wrap]
  show Seg _ A1 _ _ _ s₀ _ ((ask >>= _).wrap _ _ _ _) [] s
  refine seg_bind_wrap (wpAny_askSetting ?_)
  split
  · exact seg_again rfl loop
  · refine seg_bind_wrap (wpAny_rule ?_)
    show Seg _ A1 _ _ _ s₀ _ ((standAt iter.pos >>= _).wrap _ _ _ _) [] s
    refine seg_bind_wrap (wpAny_standAt ?_)
    exact seg_bind_wrap (P.turn.self _ 0 _ _ _ ht (seg_again rfl loop))

/-- asleep ahead of turn i -/
def Asleep (G : Cx) (σ0 : L2.St) (fp : List Addr) (tn : Nat → Heap → Prop) (a : Addr) (go : Obj) (gn n : Nat) (Pv : Nat → Hp → Prop) (Qf Qt : Hp → Prop) (A1 : Around) (i : Nat) (s : Shared) : Prop :=
  Mid G σ0 fp tn a go gn i (Pv i) s ∧ ∃ gs, s.gens[gn]? = some gs ∧ ∀ s'' : Shared, s''.heap = s.heap → s''.os = s.os → AllBare s''.gens → gn < s''.gens.size →
    gs.Goes (model G.prog G.w) A1 (fun m s₀ r s₁ => r = .ok .next ∧ rP G σ0 fp tn a go gn Qt m s₀ s₁) (yP G σ0 fp tn a go gn n Pv Qf) (n - i + 1) (.send .none) s''

theorem size_setGen (s : Shared) (g : Nat) (x : GenState) : (s.setGen g x).gens.size = s.gens.size := by simp [Shared.setGen]

theorem all_turns {A0 : Around} {R : Result → Shared → Prop} (hA1 : A1 = A0.in1.in1) (h0 : A0.handled = none) (hd : A0.depth < recursionLimit) (hgo : ∀ h : Heap, h.get? a = some go → h.IsGen a gn)
    (hf : ∀ H s, Inv G [(a, go)] σ0 H s → Qf H → R (.ok (.ret (.bool false))) s) (ht : ∀ H s, Inv G [(a, go)] σ0 H s → Qt H → R (.ok (.ret (.bool true))) s)
    (hkeep : ∀ H s h', Inv G [(a, go)] σ0 H s → (∀ b o, s.heap.get? b = some o → h'.get? b = some o) → Inv G [(a, go)] σ0 H { s with heap := h' }) :
    ∀ (k i : Nat) (s : Shared), n - i = k → i ≤ n → Asleep G σ0 fp tn a go gn n Pv Qf Qt A1 i s → codeAny (model G.prog G.w) A0 (.builtin "all.loop" ⟨[.ref a], []⟩) R s := by
  intro k
  induction k with
  | zero =>
    intro i s hk hi ⟨⟨H, I, t, f, g, p⟩, gs, hgs, hgoes⟩
    refine codeAny_builtin F.entry_all_loop ?_
    rw [Around.under_plainId F.plain_all_loop _]
    show wpAny _ A0.in1 (pyNext (.ref a) >>= _) _ _ s
    have pin := I.pin (a, go) (List.mem_append_right _ (by simp))
    have goes := hgoes (s.setGen gn .running) rfl rfl (allBare_setGen I.bare rfl) (by rw [size_setGen]; exact g)
    rw [hk, hA1] at goes
    refine wpAny_bind (wpAny_pyNext_genexpQ (P := rP G σ0 fp tn a go gn Qt) (show A0.in1.handled = none from h0) I.nolimit (show A0.in1.depth < recursionLimit from hd) (hgo _ pin.1) hgs goes (fun v s₁ gs' _ hv => ?_) (fun s₁ hp h' hk' => ?_))
    · obtain ⟨j, b, _, e1, e2, _⟩ := hv
      exfalso
      omega
    · obtain ⟨_, H1, I1, g1, q1⟩ := hp
      refine wpAny_bind (wpAny_rule (wpAny_pure ?_))
      have I2 : Inv G [(a, go)] σ0 H1 (s₁.setGen gn .finished) := inv_gens I1 rfl rfl (allBare_setGen I1.bare rfl)
      exact ht H1 _ (hkeep _ _ _ I2 hk') q1
  | succ k ih =>
    intro i s hk hi ⟨⟨H, I, t, f, g, p⟩, gs, hgs, hgoes⟩
    refine codeAny_builtin F.entry_all_loop ?_
    rw [Around.under_plainId F.plain_all_loop _]
    show wpAny _ A0.in1 (pyNext (.ref a) >>= _) _ _ s
    have pin := I.pin (a, go) (List.mem_append_right _ (by simp))
    have goes := hgoes (s.setGen gn .running) rfl rfl (allBare_setGen I.bare rfl) (by rw [size_setGen]; exact g)
    rw [hk, hA1] at goes
    refine wpAny_bind (wpAny_pyNext_genexpQ (P := rP G σ0 fp tn a go gn Qt) (show A0.in1.handled = none from h0) I.nolimit (show A0.in1.depth < recursionLimit from hd) (hgo _ pin.1) hgs goes (fun v s₁ gs' hbare hv => ?_) (fun s₁ hp h' hk' => ?_))
    · obtain ⟨j, b, rfl, e1, e2, hvf, hvt⟩ := hv
      refine wpAny_bind (wpAny_holding (wpAny_truthy_bool ?_))
      refine wpAny_bind (wpAny_letGo ?_)
      cases b with
      | false =>
        simp only [Bool.false_eq_true, if_false]
        refine wpAny_bind (wpAny_rule (wpAny_pure ?_))
        obtain ⟨H1, I1, _, _, g1, q1⟩ := hvf rfl
        exact hf H1 _ (inv_gens I1 rfl rfl (allBare_setGen I1.bare hbare)) q1
      | true =>
        simp only [if_true]
        obtain ⟨md, kap⟩ := hvt rfl
        have ej : j = i := by omega
        subst ej
        have bare1 : AllBare (s₁.setGen gn gs').gens := by
          obtain ⟨_, I1, _⟩ := md
          exact allBare_setGen I1.bare hbare
        have sz1 : gn < s₁.gens.size := by
          obtain ⟨_, _, _, _, g1, _⟩ := md
          exact g1
        refine wpAny_pure ⟨plainId_quiet F.plain_all_loop _, ih (j + 1) _ (by omega) (by omega) ⟨md.gens rfl rfl bare1 (by rw [size_setGen]; exact sz1), gs', setGen_at sz1, fun s'' e1 e2 e3 e4 => ?_⟩⟩
        have kk := kap s'' e1 e2 e3 e4
        have en : n - (j + 1) + 1 = k + 1 := by omega
        rw [en, hA1]
        exact kk
    · exact absurd hp.1 (by omega)
end
end
end LG

namespace LG
open PySem PySem.Spec PyProof.Rows L2 GxR

/-- all(e for x in ..): P the table of the def's code -/
def tAllG (wi : TI) (g : TG) (te : TE) (P : Addr) (vs : List Nat) : TE := fun σ H Q => wi σ H fun J H1 => TabG H1 P ∧ ∀ H2, Tabbed P H1 H2 → ∃ (n : Nat) (Pv : Nat → Hp → Prop), Pv 0 H2 ∧
  (∀ i H, i < n → Pv i H → J.go i H ∧ ∀ x H', J.yld i H x H' → g x (wipe σ vs) H' fun σ2 H3 => wipe σ2 vs = wipe σ vs ∧ te σ2 H3 fun y H4 => ∃ b, y = .bl b ∧ (b = true → Pv (i + 1) H4) ∧ (b = false → Q (.bl false) H4)) ∧
  ∀ H, Pv n H → J.stop n H ∧ Q (.bl true) H

theorem room_g {X : Cx} {k : Nat} (hr : Room (k + 1) X.A) {gE : Expr} {it : Value} {ge : Env} (h1 : (gAr X gE it ge).handled = X.A.handled) (h2 : (gAr X gE it ge).depth = X.A.depth + 1) (h3 : (gAr X gE it ge).units = X.A.units + 5) : Room k (gAr X gE it ge) := by
  refine ⟨by rw [h1]; exact hr.hd, ?_, ?_⟩
  · rw [h2]
    have := hr.dp
    omega
  · rw [h3]
    have := hr.un
    omega

theorem call_all_gen {X : Cx} {A1 : Around} {pins : List (Addr × Obj)} {σ : L2.St} {H4 : Hp} {s4 s5 : Shared} {G : Cx} {vs : List Nat} {tg elt iter : Expr} {scope : Scope} {gp : Pos} {J : It} {fp : List Addr} {it a : Addr} {tn : Nat → Heap → Prop} {go : Obj} {n gn : Nat} {Pv : Nat → Hp → Prop} {Q : VK}
    (eP : G.prog = X.prog) (ew : G.w = X.w) (eH : G.H_0 = H4) (es : G.s_0 = s4) (eo : G.outer = X.stack) (hr : X.A.handled = none) (hd : X.A.depth < recursionLimit)
    (P : Plan G vs (wipe σ vs) tg elt J fp it tn a go n Pv (Q (.bl false)) (Q (.bl true))) (hA : X.A.in1.in1.over (.compLoop (.GeneratorExp elt [⟨tg, iter, [], 0⟩] scope gp) 0 (.ref it) .none G.env) [] = G.A)
    (I4 : Inv X pins σ H4 s4) (hch : ∀ b ∈ fp, (b ∈ X.ex ∨ X.s_0.heap.objs.size ≤ b) ∧ b ≠ X.env.locals ∧ (∀ x c, X.env.cells.lookup x = some c → c ≠ b) ∧ ∀ p ∈ X.pn ++ pins, p.1 ≠ b)
    (hgo : ∀ h : Heap, h.get? a = some go → h.IsGen a gn) (hgs : s5.gens[gn]? = some (.fresh (.compStart (.GeneratorExp elt [⟨tg, iter, [], 0⟩] scope gp) 0 (.ref it) .none G.env))) (h : Mid G (wipe σ vs) fp tn a go gn 0 (Pv 0) s5) :
    wpAny (model X.prog X.w) X.A (call (.builtin "all") [.ref a]) (EP X pins σ Q) X.xe s5 := by
  refine call_function_tree F.kind_all F.plain_all F.entry_all (F.args_all1 _) ?_
  unfold Builtin.«all»
  refine wpAny_bind (m := oneArg "all" _) (wpAny_pure ?_)
  obtain ⟨H, I, ht, hf, hg, hp⟩ := id h
  have pin := I.pin (a, go) (List.mem_append_right _ (by simp))
  refine wpAny_bind (wpAny_pyIter_gen (hgo _ pin.1) ?_)
  refine wpAny_pure ⟨plainId_quiet F.plain_all_loop _, ?_⟩
  have back : ∀ (b : Bool) (H' : Hp) (s' : Shared), Inv G [(a, go)] (wipe σ vs) H' s' → Q (.bl b) H' → EP X pins σ Q (.bool b) s' := fun b H' s' I' q => by
    have un : Un (frs X.stack) fp H4 H' s4.heap s'.heap := by
      have u := I'.base
      rw [eH, es, P.xex] at u
      rw [← eo]
      exact u
    have os : s'.os = s4.os := by
      rw [← es]
      exact I'.os
    have ok : HOk X.prog X.w H' s'.heap := by
      rw [← eP, ← ew]
      exact I'.hok
    exact ⟨.bl b, H', I4.call' (ch := fp) os un ok I'.bare hch, rfl, q⟩
  have run := all_turns (G := G) (σ0 := wipe σ vs) (fp := fp) (tn := tn) (a := a) (go := go) (n := n) (gn := gn) (Pv := Pv) (Qf := Q (.bl false)) (Qt := Q (.bl true)) (A1 := X.A.in1.in1) (A0 := X.A)
    (R := fun r s' => match r with | .ok (.ret v) => EP X pins σ Q v s' | .ok _ => False | .error e => X.xe e s') rfl hr hd hgo (fun H' s' I' q => back false H' s' I' q) (fun H' s' I' q => back true H' s' I' q)
    (fun H' s' h' I' k => I'.kept (t' := s'.toks) k) n 0 s5 (Nat.sub_zero _) (Nat.zero_le _) ⟨h, _, hgs, fun s'' e1 e2 e3 e4 => ⟨rfl, ?_⟩⟩
  · rw [eP, ew] at run
    exact run
  · rw [Nat.sub_zero]
    exact seg_first P hA s'' s'' (h.gens e1 e2 e3 e4)

theorem pe_allG {X : Cx} {c P : Addr} {elt iter tg : Expr} {p pos gpos : Pos} {scope : Scope} {own : List (Str × Nat)} {wi : TI} {g : TG} {te : TE} {k : Nat}
    (hc : X.calm = true) (hN : X.N.Nodup) (hr : Room (k + 1) X.A) (hg : Gl X "all") (hm : X.mg "all" = none) (TB : TabB X.base X.mg c P) (hcode : X.env.code = .ref c) (ok : GOk X.N X.env.scope scope own) (hi : PI X tg iter wi)
    (pg : ∀ (s : Shared) (H : Hp) (A' : Around) (C : Addr) (code : Value) (fp : List Addr), PG (gcx X s H scope A' (gEnvOf X scope C code) fp) tg g)
    (pe : ∀ (s : Shared) (H : Hp) (A' : Around) (C : Addr) (code : Value) (fp : List Addr), Room k A' → PE (gcx X s H scope A' (gEnvOf X scope C code) fp) elt te)
    (hs : ∀ v, genFold iter X.env v = pure v := by intro _; rfl) (hb : bootBuiltins "all" = some (.builtin "all") := by decide +kernel)
    (he : starEach [.GeneratorExp elt [⟨tg, iter, [], 0⟩] scope gpos] X.env = (false, eval (.GeneratorExp elt [⟨tg, iter, [], 0⟩] scope gpos) X.env) :: starEach [] X.env := by rfl) :
    PE X (.Call (.Name "all" p) [.GeneratorExp elt [⟨tg, iter, [], 0⟩] scope gpos] [] pos) (tAllG wi g te P (own.map (·.2))) := by
  refine ⟨fun pins s σ H Q I h => ?_⟩
  refine wpAny_Call_Name_kw (ld_blt I hg hm hb ?_)
  refine PyProof.Rows.callWith_builtin1 ?_ he (by rfl)
  rw [he]
  show wpAny _ _ (spliced ((false, eval (.GeneratorExp elt [⟨tg, iter, [], 0⟩] scope gpos) X.env) :: backTo pos (starEach [] X.env))) _ _ s
  refine Calls.spliced_cons ?_
  have captured : ∀ y ∈ scope.names, y.2 = .free → ∃ c, X.env.cells.lookup y.1 = some c := fun y hy e => by
    rcases ok.blk.free y hy e with q | q
    · exact I.ok.has _ (.inl q)
    · exact I.ok.has _ (.inr q)
  refine wpAny_GeneratorExp_make ok.co (closure_ok captured) ok.nocell ok.dot ok.blk.kind (by have := hr.dp; omega) ?_ hs
  refine thn (hi.run pins s σ H _ I h) fun xv s1 hx => thn hx fun itv s2 ⟨it, fp, tn, J, H2, e, I2, T, st2, f2, hT, q⟩ => ?_
  subst e
  refine ⟨I2.nolimit, ?_⟩
  obtain ⟨ps, hP, htri⟩ := hT
  have hPs : s2.heap.get? P = some { cls := .none, data := .fields ps } := I2.hok P _ hP
  have nP : ∀ b, H2 b = none → b ≠ P := fun b e z => by
    rw [z, hP] at e
    cases e
  have cd : PySem.W.CodeHd s2.heap c P := TB.code.keeps fun b u e => I2.bk b u e
  have cont : ∀ (code : Value) (h3 : Heap) (tk : Nat) (more : Array Value), Heap.ExtBut P s2.heap h3 → h3.get? P = some { cls := .none, data := .fields (ps ++ more) } → TriplesOk (ps ++ more).toList →
      wpAny (model X.prog X.w) X.A (builtinsFor X.env.globals X.env.builtins) (fun bi s₄ => ∀ h' : Heap, h'.Ns s₄.heap.objs.size (fun y => if y = ".0" then some (.ref it) else none) → Heap.SameBut s₄.heap.objs.size (s₄.heap.push { cls := .type "frame", data := .dict #[] }) h' →
        wpAny (model X.prog X.w) X.A (spliced (backTo pos (starEach [] X.env))) (fun vs s₂ => wpAny (model X.prog X.w) X.A (call (.builtin "all") (.ref h'.objs.size :: vs)) (EP X pins σ Q) X.xe s₂) X.xe
          { s₄ with gens := s₄.gens.push (.fresh (.compStart (.GeneratorExp elt [⟨tg, iter, [], 0⟩] scope gpos) 0 (.ref it) .none (genEnv scope (cloFrom X.env.cells scope.names []) s₄.heap.objs.size code bi X.env))), toks := s₄.toks + 1 + 1 + 1,
                    heap := h'.push { cls := .type "generator", data := .fields #[.int s₄.gens.size 0, .str "<genexpr>" (s₄.toks + 1), .str (X.env.qual ++ "<genexpr>") (s₄.toks + 1 + 1)] } }) X.xe { s2 with heap := h3, toks := tk } := by
    intro code h3 tk more hx hP3 ht3
    obtain ⟨bm, ob, e1, e2, e3, e4, e5, e6, e7, e8⟩ := TB.bm
    refine wpAny_builtinsFor (m := X.mg) (by rw [I2.ok.glob]; exact (I2.mod.glob.keeps I2.bk).extBut hx TB.gP) e1 e2 (hx _ _ e4 (I2.bk _ _ e5)) e6 e7 e8 ?_
    intro h' hns hsame
    refine Calls.spliced_nil ?_
    have I4 : Inv X pins σ (upd H2 P (.tbl (ps ++ more))) { s2 with heap := h3, toks := tk } := inv_tab (g' := s2.gens) (d' := s2.drawn) I2 hP (fun b o hb e => hx b o hb e) hP3 I2.bare
    have tb : Tabbed P H2 (upd H2 P (.tbl (ps ++ more))) := ⟨⟨_, upd_same, ht3⟩, fun b hb => upd_ne hb⟩
    obtain ⟨n, Pv, p0, pstep, pend⟩ := q _ tb
    generalize upd H2 P (.tbl (ps ++ more)) = H4 at I4 tb p0
    generalize hs4 : ({ s2 with heap := h3, toks := tk } : Shared) = s4 at I4 hns hsame ⊢
    have hh4 : s4.heap = h3 := by rw [← hs4]
    have st4 : tn 0 s4.heap := T.keep _ _ _ st2 fun b hb o e => by
      rw [hh4]
      exact hx b o (nP b (f2 b hb).1) e
    have sz4 : ∀ b ∈ fp, b < s4.heap.objs.size := fun b hb => by
      obtain ⟨o, e, _⟩ := T.obj _ _ st4 b hb
      exact Heap.lt_size e
    have f4 : ∀ b ∈ fp, FpOk X pins H4 b ∧ b < s4.heap.objs.size := fun b hb => by
      refine ⟨⟨?_, (f2 b hb).2⟩, sz4 b hb⟩
      rw [tb.2 b (nP b (f2 b hb).1)]
      exact (f2 b hb).1
    have keep4 : ∀ b o, s4.heap.get? b = some o → h'.get? b = some o := fun b o e => by
      have lt := Heap.lt_size e
      rw [hsame.2 b (Nat.ne_of_lt lt)]
      exact Heap.get?_push_of_some _ e
    have szh : h'.objs.size = s4.heap.objs.size + 1 := by rw [hsame.1, Heap.size_push]
    generalize hgo : ({ cls := .type "generator", data := .fields #[.int s4.gens.size 0, .str "<genexpr>" (s4.toks + 1), .str (X.env.qual ++ "<genexpr>") (s4.toks + 1 + 1)] } : Obj) = go
    have kgo : ∀ b o, s4.heap.get? b = some o → (h'.push go).get? b = some o := fun b o e => Heap.get?_push_of_some _ (keep4 b o e)
    have nsgo : (h'.push go).Ns s4.heap.objs.size (fun y => if y = ".0" then some (.ref it) else none) := hns.keeps fun b o e => Heap.get?_push_of_some _ e
    generalize hge : gEnvOf X scope s4.heap.objs.size code = ge
    have hge' : genEnv scope (cloFrom X.env.cells scope.names []) s4.heap.objs.size code builtinsNs X.env = ge := hge
    rw [hge']
    have geC : ge.locals = s4.heap.objs.size := by
      rw [← hge]
      rfl
    have gfree : go.isFreed = false := by
      rw [← hgo]
      rfl
    have I5 := gen_start (A' := gAr X (.GeneratorExp elt [⟨tg, iter, [], 0⟩] scope gpos) (.ref it) ge) (code := code) (h' := h'.push go) (g' := s4.gens.push (.fresh (.compStart (.GeneratorExp elt [⟨tg, iter, [], 0⟩] scope gpos) 0 (.ref it) .none ge))) (tk := s4.toks + 1 + 1 + 1)
      I4 ok hN f4 rfl (by rw [hge]; exact gAr_frames I4.ok.frames) kgo nsgo (I4.bare.push rfl)
    have pg' := pg s4 H4 (gAr X (.GeneratorExp elt [⟨tg, iter, [], 0⟩] scope gpos) (.ref it) ge) s4.heap.objs.size code fp
    have pe' := pe s4 H4 (gAr X (.GeneratorExp elt [⟨tg, iter, [], 0⟩] scope gpos) (.ref it) ge) s4.heap.objs.size code fp (room_g hr rfl rfl rfl)
    rw [hge] at I5 pg' pe'
    have aC : h'.objs.size ≠ s4.heap.objs.size := by
      rw [szh]
      exact Nat.succ_ne_self _
    have aOld : ∀ b, b < s4.heap.objs.size → h'.objs.size ≠ b := fun b hb z => by
      rw [← z, szh] at hb
      exact absurd hb (Nat.not_lt.mpr (Nat.le_succ _))
    have fpa : ∀ b ∈ [h'.objs.size], FpOk (gcx X s4 H4 scope (gAr X (.GeneratorExp elt [⟨tg, iter, [], 0⟩] scope gpos) (.ref it) ge) ge fp) [] H4 b := fun b hb => by
      have eb : b = h'.objs.size := by simpa using hb
      rw [eb]
      refine ⟨I4.hok.fresh (by rw [szh]; exact Nat.le_succ _), by show h'.objs.size ≠ ge.locals; rw [geC]; exact aC, fun z => ?_, .inr (by show s4.heap.objs.size ≤ _; rw [szh]; exact Nat.le_succ _), fun x c e => ?_, fun p hp => absurd (show p ∈ ([] : List (Addr × Obj)) ++ [] from hp) (by simp)⟩
      · rcases List.mem_cons.mp (I4.stkSub _ z) with q | q
        · exact aOld _ I4.lt q
        · exact I4.nofs (by rw [szh]; exact Nat.le_succ _) q
      · obtain ⟨v, z⟩ := I5.cell x c e
        have hcl : c < s4.heap.objs.size := by
          rw [← hge] at e
          rcases cloFrom_mem (PySem.mem_of_lookup (show (cloFrom X.env.cells scope.names []).lookup x = some c from e)) with hm | ⟨h1, rfl⟩
          · cases hm
          · obtain ⟨c', hc'⟩ := captured _ h1 rfl
            rw [hc']
            obtain ⟨v', z'⟩ := I4.cell _ _ hc'
            exact z'.lt
        exact (aOld c hcl).symm
    have I6 := I5.pinned fpa (fun b hb => by
      have eb : b = h'.objs.size := by simpa using hb
      rw [eb]
      refine ⟨go, Heap.get?_push_size _ gfree, fun v z => ?_⟩
      rw [← hgo] at z
      cases z)
    have epin : ([] : List (Addr × Obj)) ++ pinsAt [h'.objs.size] (h'.push go) = [(h'.objs.size, go)] := by
      unfold pinsAt
      rw [List.filterMap_cons, Heap.get?_push_size _ gfree]
      rfl
    rw [epin] at I6
    have un4 : ∀ b ∈ fp, (b ∈ X.ex ∨ X.s_0.heap.objs.size ≤ b) ∧ b ≠ X.env.locals ∧ (∀ x c, X.env.cells.lookup x = some c → c ≠ b) ∧ ∀ p ∈ X.pn ++ pins, p.1 ≠ b := fun b hb =>
      ⟨(f4 b hb).1.2.2.2.1, (f4 b hb).1.2.1, (f4 b hb).1.2.2.2.2.1, (f4 b hb).1.2.2.2.2.2⟩
    refine call_all_gen (A1 := X.A) (G := gcx X s4 H4 scope (gAr X (.GeneratorExp elt [⟨tg, iter, [], 0⟩] scope gpos) (.ref it) ge) ge fp) (vs := own.map (·.2)) (J := J) (fp := fp) (it := it) (tn := tn) (go := go) (n := n) (gn := s4.gens.size) (Pv := Pv) (iter := iter) (scope := scope) (gp := gpos) (s4 := s4)
      rfl rfl rfl rfl rfl hr.hd (by have := hr.dp; omega) ⟨hc, T, hr.hd, fun b hb => aOld b (sz4 b hb), fun i H' hi hp => (pstep i H' hi hp).1, pend, rfl, rfl, by show ge.scope.isCoroutine = false; rw [← hge]; exact ok.co, ?_⟩ rfl I4 un4 (fun h e => ⟨go, _, _, e, by rw [← hgo], by rw [← hgo], by rw [← hgo]⟩) ?_
      ⟨H4, I6, T.keep _ _ _ st4 fun b _ o e => kgo b o e, fun b hb => (f4 b hb).1.1, ?_, p0⟩
    · intro i Ha Hb x sA u pinsA E hi hp hy IA ru
      refine wpAny_mono (pg'.run pinsA sA _ Hb x u _ IA ru ((pstep i Ha hi hp).2 x Hb hy)) (fun _ sB ⟨σB, HB, IB, ew, qB⟩ => ?_) fun _ _ z => z.elim
      refine wpAny_mono (pe'.run pinsA sB σB HB _ IB qB) (fun y sC ⟨v, HC, IC, rC, b, ev, hT, hF⟩ => ?_) fun _ _ z => z.elim
      subst ev
      refine ⟨b, HC, rC, IC.weak ?_ (fun j v e => ?_), hT, hF⟩
      · have l1 := wipe_length σ (own.map (·.2))
        have l2 := wipe_length σB (own.map (·.2))
        rw [ew] at l2
        omega
      · rw [← ew] at e
        exact (wipe_some e).1
    · show (s4.gens.push _)[s4.gens.size]? = _
      simp
    · show s4.gens.size < (s4.gens.push _).size
      rw [Array.size_push]
      exact Nat.lt_succ_self _
  cases hf : codeAmong gpos ps.toList with
  | none =>
    refine wpAny_genexprCodeX hcode (cd.code hPs htri) (cd.tab hPs) hf fun c' h' tk hx hge hlt hco' _ htab' _ => ?_
    obtain ⟨o1, vs, f1, tf, fl, tg', inF, tx, tt, op, _, _, _, _, _, _, _, _, _, htr, _⟩ := hco'
    exact cont _ h' tk _ hx htab'.2 htr
  | some cv =>
    refine wpAny_genexprCode_hit hcode (cd.code hPs htri) hf ?_
    have := cont cv s2.heap s2.toks #[] (Heap.ExtBut.refl _ _) (by simpa using hPs) (by simpa using htri)
    exact this
end LG

/-! Plain data over the hand layer: what an expression, a statement, a def makes of plain data, as a function -/
namespace PD
open PySem PySem.Spec PyProof.Rows L2 GxR

/-! ### data stay -/
theorem sqT_same {K : PySem.W.Frag} {F G : Hp} {a : Addr} {xs : List V} (e : Same F G) (h : SqT K F a xs) : SqT K G a xs := by
  rcases h with (h | ⟨o, h⟩) | h
  · exact .inl (.inl (e _ _ h))
  · exact .inl (.inr ⟨o, e _ _ h⟩)
  · exact .inr h
mutual
theorem dp_same {K : PySem.W.Frag} {F G : Hp} (e : Same F G) : ∀ {v : V} {d : PyData}, Dp K F v d → Dp K G v d
  | _, _, .non => .non
  | _, _, .bl b => .bl b
  | _, _, .int i => .int i
  | _, _, .str x => .str x
  | _, _, .lst h hs => .lst (e.seq h) (dpAll_same e hs)
  | _, _, .tup h hs => .tup (sqT_same e h) (dpAll_same e hs)
theorem dpAll_same {K : PySem.W.Frag} {F G : Hp} (e : Same F G) : ∀ {vs : List V} {ds : List PyData}, DpAll K F vs ds → DpAll K G vs ds
  | _, _, .nil => .nil
  | _, _, .cons h hs => .cons (dp_same e h) (dpAll_same e hs)
end
section
variable {K : PySem.W.Frag} {F : Hp}
theorem dpAll_len : ∀ {vs : List V} {ds : List PyData}, DpAll K F vs ds → vs.length = ds.length
  | _, _, .nil => rfl
  | _, _, .cons _ h => congrArg (· + 1) (dpAll_len h)
theorem dpAll_get : ∀ {vs : List V} {ds : List PyData} {i : Nat} {v : V}, DpAll K F vs ds → vs[i]? = some v → ∃ d, ds[i]? = some d ∧ Dp K F v d
  | _, _, _, _, .nil, e => by cases e
  | _, _, 0, _, .cons h _, e => by cases e; exact ⟨_, rfl, h⟩
  | _, _, i + 1, v, .cons _ h, e => dpAll_get (i := i) h e
theorem dpAll_at : ∀ {vs : List V} {ds : List PyData} {i : Nat} {d : PyData}, DpAll K F vs ds → ds[i]? = some d → ∃ v, vs[i]? = some v ∧ Dp K F v d
  | _, _, _, _, .nil, e => by cases e
  | _, _, 0, _, .cons h _, e => by cases e; exact ⟨_, rfl, h⟩
  | _, _, i + 1, v, .cons _ h, e => dpAll_at (i := i) h e
theorem dpAll_app : ∀ {vs us : List V} {ds es : List PyData}, DpAll K F vs ds → DpAll K F us es → DpAll K F (vs ++ us) (ds ++ es)
  | _, _, _, _, .nil, h => h
  | _, _, _, _, .cons a b, h => .cons a (dpAll_app b h)
theorem dpAll_take : ∀ {vs : List V} {ds : List PyData} (n : Nat), DpAll K F vs ds → DpAll K F (vs.take n) (ds.take n)
  | _, _, 0, _ => .nil
  | _, _, _ + 1, .nil => .nil
  | _, _, n + 1, .cons a b => .cons a (dpAll_take n b)
theorem dpAll_drop : ∀ {vs : List V} {ds : List PyData} (n : Nat), DpAll K F vs ds → DpAll K F (vs.drop n) (ds.drop n)
  | _, _, 0, h => h
  | _, _, _ + 1, .nil => .nil
  | _, _, n + 1, .cons a b => dpAll_drop n b
theorem dpAll_set : ∀ {vs : List V} {ds : List PyData} (n : Nat) {v : V} {d : PyData}, DpAll K F vs ds → Dp K F v d → DpAll K F (vs.set n v) (ds.set n d)
  | _, _, _, _, _, .nil, _ => .nil
  | _, _, 0, _, _, .cons a b, h => .cons h b
  | _, _, n + 1, _, _, .cons a b, h => .cons a (dpAll_set n b h)
theorem dpAll_ints : ∀ {vs : List V} {ns : List Int}, DpAll K F vs (ns.map PyData.int) → vs = ns.map V.int
  | [], [], _ => rfl
  | _, [], h => by cases h; rfl
  | _, n :: ns, .cons h hs => by
    cases h
    rw [dpAll_ints hs]
    rfl
theorem ints_dpAll : ∀ (ns : List Int), DpAll K F (ns.map V.int) (ns.map PyData.int)
  | [] => .nil
  | n :: ns => .cons (.int n) (ints_dpAll ns)
end

/-! ### slots -/
/-- what a slot holds: nothing that is known; data; a list of the def's own; the list that the def was handed to change -/
inductive Sl where
  | un | dat (d : PyData) | own (ds : List PyData) | io (ds : List PyData)
abbrev Ev := List Sl
/-- a value: data, or the list in a slot -/
inductive Ob where
  | d (x : PyData) | s (i : Nat)
/-- what is fixed through a def's run -/
structure Co where
  K : PySem.W.Frag
  T : List Addr
  H0 : Hp
  F0 : Hp
  io : List Addr

/-- an object with nothing besides its data -/
def PlT (o : Obj) : Prop := o.dict = none ∧ o.slots = #[]
/-- a tuple among the data is known to be so -/
def TFo : HO → Prop
  | .tup _ => False
  | .frz o (.tup _) => PlT o
  | _ => True
structure TF (K : PySem.W.Frag) (F : Hp) : Prop where
  a : ∀ b o, F b = some o → TFo o
  k : ∀ b o, K.lookup b = some o → o.cls = .type "tuple" → PlT o
theorem TF.lst {K : PySem.W.Frag} {F : Hp} {a : Addr} {vs : List V} (h : TF K F) : TF K (upd F a (.lst vs)) :=
  ⟨fun b o e => by
    by_cases hb : b = a
    · rw [hb, upd_same] at e
      cases e
      trivial
    · rw [upd_ne hb] at e
      exact h.a b o e, h.k⟩
theorem TF.dict {K : PySem.W.Frag} {F : Hp} {a : Addr} {vs : List V} (h : TF K F) (q : SqT K F a vs) : (∃ o, F a = some (.frz o (.tup vs)) ∧ PlT o) ∨ ∃ o, K.lookup a = some o ∧ o.cls = .type "tuple" ∧ PlT o := by
  rcases q with (q | ⟨o, q⟩) | ⟨o, its, n, q, hc, _⟩
  · exact (h.a _ _ q).elim
  · exact .inl ⟨o, q, h.a _ _ q⟩
  · exact .inr ⟨o, q, hc, h.k _ _ q hc⟩

def vAt (σ : L2.St) (i : Nat) : Option V := (σ[i]?).join
theorem vAt_eq {σ : L2.St} {i : Nat} {v : V} (h : vAt σ i = some v) : σ[i]? = some (some v) := by
  unfold vAt at h
  cases e : σ[i]? with
  | none => rw [e] at h; cases h
  | some o => rw [e] at h; cases o with
    | none => cases h
    | some w => cases h; rfl
theorem vAt_set {σ : L2.St} {i : Nat} {v : V} (h : i < σ.length) : vAt (σ.set i (some v)) i = some v := by
  unfold vAt
  rw [List.getElem?_set_self h]
  rfl
theorem vAt_ne {σ : L2.St} {i j : Nat} {v : Option V} (h : i ≠ j) : vAt (σ.set i v) j = vAt σ j := by
  unfold vAt
  rw [List.getElem?_set_ne h]

def SlOk (c : Co) (F H : Hp) (v : Option V) : Sl → Prop
  | .un => True
  | .dat d => ∃ x, v = some x ∧ Dp c.K F x d
  | .own ds => ∃ a vs, v = some (.ref a) ∧ H a = some (.lst vs) ∧ DpAll c.K F vs ds ∧ F a = none ∧ a ∉ c.T ∧ c.H0 a = none
  | .io ds => ∃ a vs, c.io = [a] ∧ v = some (.ref a) ∧ H a = some (.lst vs) ∧ DpAll c.K F vs ds ∧ F a = none ∧ a ∉ c.T

structure Rl (c : Co) (F H : Hp) (σ : L2.St) (ρ : Ev) : Prop where
  len : σ.length = ρ.length
  sub : Same F H
  ft : ∀ P ∈ c.T, F P = none
  tb : ∀ P ∈ c.T, TabG H P
  mono : Same c.F0 F
  fr : ∀ b o, c.H0 b = some o → b ∉ c.T → b ∉ c.io → H b = some o
  ioh : ∀ a ∈ c.io, c.H0 a ≠ none ∧ a ∉ c.T ∧ F a = none ∧ ∃ vs, H a = some (.lst vs)
  sl : ∀ i sl, ρ[i]? = some sl → SlOk c F H (vAt σ i) sl
  dj : ∀ (i j : Nat) a ds es, ρ[i]? = some (Sl.own ds) → ρ[j]? = some (Sl.own es) → vAt σ i = some (.ref a) → vAt σ j = some (.ref a) → i = j
  iu : ∀ (i j : Nat) ds es, ρ[i]? = some (Sl.io ds) → ρ[j]? = some (Sl.io es) → i = j
  nw : ∀ a, c.H0 a ≠ none → c.F0 a = none → F a = none
  tf : TF c.K F

/-- the heap has grown; what is new in F is new in H -/
structure Xt (F H F' H' : Hp) : Prop where
  f : Same F F'
  s : Same F' H'
  h : Same H H'
  n : ∀ a, H a ≠ none → F a = none → F' a = none
  t : ∀ b o, F' b = some o → F b = some o ∨ TFo o
theorem Xt.refl {F H : Hp} (s : Same F H) : Xt F H F H := ⟨Same.refl _, s, Same.refl _, fun _ _ e => e, fun _ _ e => .inl e⟩
theorem Xt.tf {K : PySem.W.Frag} {F H F' H' : Hp} (x : Xt F H F' H') (h : TF K F) : TF K F' := ⟨fun b o e => (x.t b o e).elim (h.a b o) id, h.k⟩
theorem Xt.trans {F H F1 H1 F2 H2 : Hp} (a : Xt F H F1 H1) (b : Xt F1 H1 F2 H2) : Xt F H F2 H2 :=
  ⟨a.f.trans b.f, b.s, a.h.trans b.h, fun p h1 h2 => b.n p (fun z => by
    cases e : H p with
    | none => exact h1 e
    | some o => rw [a.h p o e] at z; cases z) (a.n p h1 h2), fun p o e => (b.t p o e).elim (a.t p o) .inr⟩
/-- a new object -/
theorem Xt.new {F H : Hp} {p : Addr} {o : HO} (s : Same F H) (hp : H p = none) (ho : TFo o := by trivial) : Xt F H (upd F p o) (upd H p o) := by
  have fp : F p = none := s.free hp
  refine ⟨fun b x e => ?_, fun b x e => ?_, fun b x e => ?_, fun a h1 h2 => ?_, fun b x e => ?_⟩
  · rw [upd_ne (ne_of_none e fp)]
    exact e
  · by_cases hb : b = p
    · rw [hb, upd_same] at e ⊢
      exact e
    · rw [upd_ne hb] at e ⊢
      exact s _ _ e
  · rw [upd_ne (ne_of_none e hp)]
    exact e
  · have : a ≠ p := fun z => h1 (by rw [z]; exact hp)
    rw [upd_ne this]
    exact h2
  · by_cases hb : b = p
    · rw [hb, upd_same] at e
      cases e
      exact .inr ho
    · rw [upd_ne hb] at e
      exact .inl e
/-- a new object that isn't data yet -/
theorem Xt.raw {F H : Hp} {p : Addr} {o : HO} (s : Same F H) (hp : H p = none) : Xt F H F (upd H p o) := by
  refine ⟨Same.refl _, fun b x e => ?_, fun b x e => ?_, fun _ _ h2 => h2, fun _ _ e => .inl e⟩
  · rw [upd_ne (ne_of_none (s _ _ e) hp)]
    exact s _ _ e
  · rw [upd_ne (ne_of_none e hp)]
    exact e

section
variable {c : Co} {F F' H H' : Hp} {σ : L2.St} {ρ : Ev}
theorem SlOk.xt {v : Option V} {sl : Sl} (h : SlOk c F H v sl) (x : Xt F H F' H') : SlOk c F' H' v sl := by
  cases sl with
  | un => trivial
  | dat d =>
    obtain ⟨w, e, h⟩ := h
    exact ⟨w, e, dp_same x.f h⟩
  | own ds =>
    obtain ⟨a, vs, e, h1, h2, h3, h4⟩ := h
    exact ⟨a, vs, e, x.h _ _ h1, dpAll_same x.f h2, x.n a (by rw [h1]; exact fun z => by cases z) h3, h4⟩
  | io ds =>
    obtain ⟨a, vs, e0, e, h1, h2, h3, h4⟩ := h
    exact ⟨a, vs, e0, e, x.h _ _ h1, dpAll_same x.f h2, x.n a (by rw [h1]; exact fun z => by cases z) h3, h4⟩
theorem Rl.xt (R : Rl c F H σ ρ) (x : Xt F H F' H') : Rl c F' H' σ ρ where
  len := R.len
  sub := x.s
  ft := fun P hP => x.n P (by
    obtain ⟨ps, e, _⟩ := R.tb P hP
    rw [e]
    exact fun z => by cases z) (R.ft P hP)
  tb := fun P hP => by
    obtain ⟨ps, e, t⟩ := R.tb P hP
    exact ⟨ps, x.h _ _ e, t⟩
  mono := R.mono.trans x.f
  fr := fun b o e h1 h2 => x.h _ _ (R.fr b o e h1 h2)
  ioh := fun a ha => by
    obtain ⟨h1, h2, h3, vs, h4⟩ := R.ioh a ha
    exact ⟨h1, h2, x.n a (by rw [h4]; exact fun z => by cases z) h3, vs, x.h _ _ h4⟩
  sl := fun i sl e => (R.sl i sl e).xt x
  dj := R.dj
  iu := R.iu
  nw := fun a h1 h2 => by
    have old := R.nw a h1 h2
    by_cases hT : a ∈ c.T
    · exact x.n a (by
        obtain ⟨ps, e, _⟩ := R.tb a hT
        rw [e]
        exact fun z => by cases z) old
    · by_cases hi : a ∈ c.io
      · obtain ⟨_, _, _, vs, h4⟩ := R.ioh a hi
        exact x.n a (by rw [h4]; exact fun z => by cases z) old
      · cases e : c.H0 a with
        | none => exact absurd e h1
        | some o => exact x.n a (by rw [R.fr a o e hT hi]; exact fun z => by cases z) old
  tf := x.tf R.tf
/-- forgetting, or knowing again, slots -/
theorem Rl.slots {σ' : L2.St} {ρ' : Ev} (R : Rl c F H σ ρ) (hl : σ'.length = ρ'.length) (h : ∀ i sl, ρ'[i]? = some sl → SlOk c F H (vAt σ' i) sl)
    (dj : ∀ (i j : Nat) a ds es, ρ'[i]? = some (Sl.own ds) → ρ'[j]? = some (Sl.own es) → vAt σ' i = some (.ref a) → vAt σ' j = some (.ref a) → i = j) (iu : ∀ (i j : Nat) ds es, ρ'[i]? = some (Sl.io ds) → ρ'[j]? = some (Sl.io es) → i = j) : Rl c F H σ' ρ' :=
  ⟨hl, R.sub, R.ft, R.tb, R.mono, R.fr, R.ioh, h, dj, iu, R.nw, R.tf⟩
def Sl.isIo : Sl → Bool
  | .io _ => true
  | _ => false
/-- data stored at a slot -/
theorem Rl.set {i : Nat} {v : V} {d : PyData} (R : Rl c F H σ ρ) (h : Dp c.K F v d) : Rl c F H (σ.set i (some v)) (ρ.set i (.dat d)) := by
  refine R.slots (by rw [List.length_set, List.length_set]; exact R.len) (fun j sl e => ?_) (fun j k a ds es e1 e2 e3 e4 => ?_) (fun j k ds es e1 e2 => ?_)
  · by_cases hj : i = j
    · subst hj
      by_cases hi : i < ρ.length
      · rw [List.getElem?_set_self hi] at e
        cases e
        exact ⟨v, vAt_set (by rw [R.len]; exact hi), h⟩
      · rw [List.getElem?_eq_none (by simpa using hi)] at e
        cases e
    · rw [List.getElem?_set_ne hj] at e
      rw [vAt_ne hj]
      exact R.sl j sl e
  · have n1 : i ≠ j := fun z => by
      subst z
      by_cases hi : i < ρ.length
      · rw [List.getElem?_set_self hi] at e1; cases e1
      · rw [List.getElem?_eq_none (by simpa using hi)] at e1; cases e1
    have n2 : i ≠ k := fun z => by
      subst z
      by_cases hi : i < ρ.length
      · rw [List.getElem?_set_self hi] at e2; cases e2
      · rw [List.getElem?_eq_none (by simpa using hi)] at e2; cases e2
    rw [List.getElem?_set_ne n1] at e1
    rw [List.getElem?_set_ne n2] at e2
    rw [vAt_ne n1] at e3
    rw [vAt_ne n2] at e4
    exact R.dj j k a ds es e1 e2 e3 e4
  · have n1 : i ≠ j := fun z => by
      subst z
      by_cases hi : i < ρ.length
      · rw [List.getElem?_set_self hi] at e1; cases e1
      · rw [List.getElem?_eq_none (by simpa using hi)] at e1; cases e1
    have n2 : i ≠ k := fun z => by
      subst z
      by_cases hi : i < ρ.length
      · rw [List.getElem?_set_self hi] at e2; cases e2
      · rw [List.getElem?_eq_none (by simpa using hi)] at e2; cases e2
    rw [List.getElem?_set_ne n1] at e1
    rw [List.getElem?_set_ne n2] at e2
    exact R.iu j k ds es e1 e2

/-- behind a call that changes the tables alone, and lays new things -/
theorem Rl.call (R : Rl c F H σ ρ) (f : Same F F') (s : Same F' H') (t : ∀ P ∈ c.T, F' P = none ∧ TabG H' P) (h : ∀ b o, H b = some o → b ∉ c.T → H' b = some o) (n : ∀ a, H a ≠ none → F a = none → F' a = none) (tf : TF c.K F') : Rl c F' H' σ ρ where
  len := R.len
  sub := s
  ft := fun P hP => (t P hP).1
  tb := fun P hP => (t P hP).2
  mono := R.mono.trans f
  fr := fun b o e h1 h2 => h _ _ (R.fr b o e h1 h2) h1
  ioh := fun a ha => by
    obtain ⟨h1, h2, h3, vs, h4⟩ := R.ioh a ha
    exact ⟨h1, h2, n a (by rw [h4]; exact fun z => by cases z) h3, vs, h _ _ h4 h2⟩
  sl := fun i sl e => by
    have old := R.sl i sl e
    cases sl with
    | un => trivial
    | dat d =>
      obtain ⟨w, e, h⟩ := old
      exact ⟨w, e, dp_same f h⟩
    | own ds =>
      obtain ⟨a, vs, e, h1, h2, h3, h4, h5⟩ := old
      exact ⟨a, vs, e, h _ _ h1 h4, dpAll_same f h2, n a (by rw [h1]; exact fun z => by cases z) h3, h4, h5⟩
    | io ds =>
      obtain ⟨a, vs, e0, e, h1, h2, h3, h4⟩ := old
      exact ⟨a, vs, e0, e, h _ _ h1 h4, dpAll_same f h2, n a (by rw [h1]; exact fun z => by cases z) h3, h4⟩
  dj := R.dj
  iu := R.iu
  nw := fun a h1 h2 => by
    have old := R.nw a h1 h2
    by_cases hT : a ∈ c.T
    · exact (t a hT).1
    · by_cases hi : a ∈ c.io
      · obtain ⟨_, _, _, vs, h4⟩ := R.ioh a hi
        exact n a (by rw [h4]; exact fun z => by cases z) old
      · cases e : c.H0 a with
        | none => exact absurd e h1
        | some o => exact n a (by rw [R.fr a o e hT hi]; exact fun z => by cases z) old
  tf := tf
/-- a list that is nobody's yet -/
structure Fresh (c : Co) (F H : Hp) (σ : L2.St) (ρ : Ev) (a : Addr) (ds : List PyData) : Prop where
  at_ : ∃ vs, H a = some (.lst vs) ∧ DpAll c.K F vs ds
  nf : F a = none
  nt : a ∉ c.T
  h0 : c.H0 a = none
  no : ∀ i es, ρ[i]? = some (Sl.own es) → vAt σ i ≠ some (.ref a)
theorem Rl.h0_of_new (R : Rl c F H σ ρ) {p : Addr} (hp : H p = none) : c.H0 p = none := by
  cases e : c.H0 p with
  | none => rfl
  | some o =>
    have nt : p ∉ c.T := fun z => by
      obtain ⟨ps, q, _⟩ := R.tb p z
      rw [hp] at q
      cases q
    have ni : p ∉ c.io := fun z => by
      obtain ⟨_, _, _, vs, q⟩ := R.ioh p z
      rw [hp] at q
      cases q
    rw [R.fr p o e nt ni] at hp
    cases hp
theorem Rl.fresh (R : Rl c F H σ ρ) {p : Addr} {vs : List V} {ds : List PyData} (hp : H p = none) (h : DpAll c.K F vs ds) : Rl c F (upd H p (.lst vs)) σ ρ ∧ Fresh c F (upd H p (.lst vs)) σ ρ p ds := by
  refine ⟨R.xt (Xt.raw R.sub hp), ⟨vs, upd_same, h⟩, R.sub.free hp, fun z => ?_, R.h0_of_new hp, fun i es e z => ?_⟩
  · obtain ⟨ps, q, _⟩ := R.tb p z
    rw [hp] at q
    cases q
  · obtain ⟨a, ws, e1, e2, _⟩ := R.sl i _ e
    rw [z] at e1
    cases e1
    rw [hp] at e2
    cases e2
/-- .. becomes data -/
theorem Rl.freeze {a : Addr} {ds : List PyData} {vs : List V} (R : Rl c F H σ ρ) (f : Fresh c F H σ ρ a ds) (hv : H a = some (.lst vs)) : Rl c (upd F a (.lst vs)) H σ ρ := by
  have sF : Same F (upd F a (.lst vs)) := fun b o e => by
    rw [upd_ne (ne_of_none e f.nf)]
    exact e
  have nio : ∀ b ∈ c.io, b ≠ a := fun b hb z => (R.ioh b hb).1 (by rw [z]; exact f.h0)
  refine ⟨R.len, fun b o e => ?_, fun P hP => ?_, R.tb, R.mono.trans sF, R.fr, fun b hb => ?_, fun i sl e => ?_, R.dj, R.iu, fun b h1 h2 => ?_, R.tf.lst⟩
  · by_cases hb : b = a
    · rw [hb, upd_same] at e
      rw [hb, hv]
      exact e
    · rw [upd_ne hb] at e
      exact R.sub _ _ e
  · have : P ≠ a := fun z => f.nt (by rw [← z]; exact hP)
    rw [upd_ne this]
    exact R.ft P hP
  · obtain ⟨h1, h2, h3, h4⟩ := R.ioh b hb
    exact ⟨h1, h2, by rw [upd_ne (nio b hb)]; exact h3, h4⟩
  · have old := R.sl i sl e
    cases sl with
    | un => trivial
    | dat d =>
      obtain ⟨w, e1, h1⟩ := old
      exact ⟨w, e1, dp_same sF h1⟩
    | own es =>
      obtain ⟨b, ws, e1, h1, h2, h3, h4⟩ := old
      have nb : b ≠ a := fun z => f.no i es e (by rw [e1, z])
      exact ⟨b, ws, e1, h1, dpAll_same sF h2, by rw [upd_ne nb]; exact h3, h4⟩
    | io es =>
      obtain ⟨b, ws, e0, e1, h1, h2, h3, h4⟩ := old
      exact ⟨b, ws, e0, e1, h1, dpAll_same sF h2, by rw [upd_ne (nio b (by rw [e0]; simp))]; exact h3, h4⟩
  · have nb : b ≠ a := fun z => h1 (by rw [z]; exact f.h0)
    rw [upd_ne nb]
    exact R.nw b h1 h2
theorem dp_frozen {K : PySem.W.Frag} {F : Hp} {a : Addr} {vs : List V} {ds : List PyData} (nf : F a = none) (h : DpAll K F vs ds) : Dp K (upd F a (.lst vs)) (.ref a) (.list ds) :=
  .lst (.inl (.inl upd_same)) (dpAll_same (fun b o e => by
    rw [upd_ne (ne_of_none e nf)]
    exact e) h)

/-- a value as it is read -/
def Vw (K : PySem.W.Frag) (F H : Hp) (x : V) (d : PyData) : Prop := Dp K F x d ∨ ∃ a vs ds, x = .ref a ∧ d = .list ds ∧ H a = some (.lst vs) ∧ DpAll K F vs ds
theorem Vw.dp {K : PySem.W.Frag} {x : V} {d : PyData} (h : Vw K F H x d) (s : Same F H) : Dp K H x d := by
  rcases h with h | ⟨a, vs, ds, rfl, rfl, h, hs⟩
  · exact dp_same s h
  · exact .lst (.inl (.inl h)) (dpAll_same s hs)
theorem Vw.list {K : PySem.W.Frag} {x : V} {ds : List PyData} (h : Vw K F H x (.list ds)) (s : Same F H) : ∃ a vs, x = .ref a ∧ SqL K H a vs ∧ DpAll K F vs ds := by
  rcases h with h | ⟨a, vs, ds, rfl, e, h, hs⟩
  · cases h with
    | lst h hs => exact ⟨_, _, rfl, s.seq h, hs⟩
  · cases e
    exact ⟨a, vs, rfl, .inl (.inl h), hs⟩
theorem Vw.tup {K : PySem.W.Frag} {x : V} {ds : List PyData} (h : Vw K F H x (.tuple ds)) (s : Same F H) : ∃ a vs, x = .ref a ∧ SqT K H a vs ∧ DpAll K F vs ds := by
  rcases h with h | ⟨a, vs, ds, rfl, e, h, hs⟩
  · cases h with
    | tup h hs => exact ⟨_, _, rfl, sqT_same s h, hs⟩
  · cases e
theorem Vw.int {K : PySem.W.Frag} {x : V} {i : Int} (h : Vw K F H x (.int i)) : x = .int i := by
  rcases h with h | ⟨a, vs, ds, rfl, e, h, hs⟩
  · cases h
    rfl
  · cases e
theorem Vw.bool {K : PySem.W.Frag} {x : V} {b : Bool} (h : Vw K F H x (.bool b)) : x = .bl b := by
  rcases h with h | ⟨a, vs, ds, rfl, e, h, hs⟩
  · cases h
    rfl
  · cases e

def ObOk (c : Co) (F : Hp) (σ : L2.St) (v : V) : Ob → Prop
  | .d d => Dp c.K F v d
  | .s i => vAt σ i = some v
theorem ObOk.same {v : V} {x : Ob} (h : ObOk c F σ v x) (s : Same F F') : ObOk c F' σ v x := by
  cases x with
  | d d => exact dp_same s h
  | s i => exact h
def res (ρ : Ev) : Ob → Option PyData
  | .d d => some d
  | .s i => match ρ[i]? with
    | some (Sl.own ds) => some (.list ds)
    | some (Sl.io ds) => some (.list ds)
    | some (.dat d) => some d
    | _ => none
theorem Rl.vw (R : Rl c F H σ ρ) {v : V} {x : Ob} {d : PyData} (h : ObOk c F σ v x) (e : res ρ x = some d) : Vw c.K F H v d := by
  cases x with
  | d d' => cases e; exact .inl h
  | s i =>
    have h : vAt σ i = some v := h
    unfold res at e
    cases q : ρ[i]? with
    | none => simp [q] at e
    | some sl =>
      have ok := R.sl i sl q
      cases sl with
      | un => simp [q] at e
      | dat d' =>
        simp only [q, Option.some.injEq] at e
        subst e
        obtain ⟨w, e1, e2⟩ := ok
        rw [h] at e1
        cases e1
        exact .inl e2
      | own ds =>
        simp only [q, Option.some.injEq] at e
        subst e
        obtain ⟨a, vs, e1, e2, e3, _⟩ := ok
        rw [h] at e1
        cases e1
        exact .inr ⟨a, vs, ds, rfl, rfl, e2, e3⟩
      | io ds =>
        simp only [q, Option.some.injEq] at e
        subst e
        obtain ⟨a, vs, _, e1, e2, e3, _⟩ := ok
        rw [h] at e1
        cases e1
        exact .inr ⟨a, vs, ds, rfl, rfl, e2, e3⟩
end
end PD

/-! Plain data: expressions and tests -/
namespace PD
open PySem PySem.Spec PyProof.Rows L2 GxR

abbrev SE := Ev → Option (Ob × Ev)
abbrev STe := Ev → Option (Bool × Ev)
abbrev SA := Ev → Option (List Ob × Ev)

def rE (c : Co) (f : SE) : TE := fun σ H Q => ∃ F ρ x ρ', Rl c F H σ ρ ∧ f ρ = some (x, ρ') ∧ ∀ v H' F', Same F F' → Rl c F' H' σ ρ' → ObOk c F' σ v x → Q v H'
def rT (c : Co) (f : STe) : TT := fun σ H Q => ∃ F ρ b ρ', Rl c F H σ ρ ∧ f ρ = some (b, ρ') ∧ ∀ H' F', Same F F' → Rl c F' H' σ ρ' → Q b H'
def ObsOk (c : Co) (F : Hp) (σ : L2.St) : List V → List Ob → Prop
  | [], [] => True
  | v :: vs, x :: xs => ObOk c F σ v x ∧ ObsOk c F σ vs xs
  | _, _ => False
def rA (c : Co) (f : SA) : TA := fun σ H Q => ∃ F ρ xs ρ', Rl c F H σ ρ ∧ f ρ = some (xs, ρ') ∧ ∀ vs H' F', Same F F' → Rl c F' H' σ ρ' → ObsOk c F' σ vs xs → Q vs H'

structure EO (c : Co) (X : Cx) (e : Expr) (f : SE) : Prop where
  pe : PE X e (rE c f)
structure ET (c : Co) (X : Cx) (e : Expr) (f : STe) : Prop where
  pt : PT X e (rT c f)
structure EW (c : Co) (X : Cx) (e : Expr) (f : STe) : Prop where
  pw : PW X e (rT c f)
structure EA (c : Co) (X : Cx) (es : List Expr) (f : SA) : Prop where
  pa : PA X es (rA c f)

theorem pe_imp {X : Cx} {e : Expr} {t t' : TE} (h : PE X e t) (i : ∀ σ H Q, t' σ H Q → t σ H Q) : PE X e t' := ⟨fun pins s σ H Q I q => h.run pins s σ H Q I (i σ H Q q)⟩
theorem pt_imp {X : Cx} {e : Expr} {t t' : TT} (h : PT X e t) (i : ∀ σ H Q, t' σ H Q → t σ H Q) : PT X e t' := ⟨fun pins s σ H Q I q => h.run pins s σ H Q I (i σ H Q q)⟩
theorem pw_imp {X : Cx} {e : Expr} {t t' : TT} (h : PW X e t) (i : ∀ σ H Q, t' σ H Q → t σ H Q) : PW X e t' := ⟨fun wh pins s σ H Q I q => h.run wh pins s σ H Q I (i σ H Q q)⟩
theorem pa_imp {X : Cx} {e : List Expr} {t t' : TA} (h : PA X e t) (i : ∀ σ H Q, t' σ H Q → t σ H Q) : PA X e t' := ⟨fun pos pins s σ H Q I q => h.run pos pins s σ H Q I (i σ H Q q)⟩

/-! ### names, constants -/
def sV (i : Nat) : SE := fun ρ => match ρ[i]? with
  | some (.dat d) => some (.d d, ρ)
  | some (.own ds) => some (.d (.list ds), ρ.set i (.dat (.list ds)))
  | _ => none
def sB (i : Nat) : SE := fun ρ => match ρ[i]? with
  | some (.dat d) => some (.d d, ρ)
  | some (.own _) => some (.s i, ρ)
  | some (.io _) => some (.s i, ρ)
  | _ => none
def sC (d : PyData) : SE := fun ρ => some (.d d, ρ)

section
variable {c : Co} {X : Cx} {a b e : Expr} {fa fb : SE} {pos : Pos}
theorem eo_b (i : Nat) {x : Str} (h : PE X (.Name x pos) (tVar i)) : EO c X (.Name x pos) (sB i) := by
  refine ⟨pe_imp h fun σ H Q ⟨F, ρ, y, ρ', R, e, k⟩ => ?_⟩
  unfold sB at e
  cases q : ρ[i]? with
  | none => simp [q] at e
  | some sl =>
    have ok := R.sl i sl q
    cases sl with
    | un => simp [q] at e
    | dat d =>
      simp only [q, Option.some.injEq, Prod.mk.injEq] at e
      obtain ⟨rfl, rfl⟩ := e
      obtain ⟨w, e1, e2⟩ := ok
      exact ⟨w, vAt_eq e1, k w H F (Same.refl _) R e2⟩
    | own ds =>
      simp only [q, Option.some.injEq, Prod.mk.injEq] at e
      obtain ⟨rfl, rfl⟩ := e
      obtain ⟨a, vs, e1, _⟩ := ok
      exact ⟨.ref a, vAt_eq e1, k (.ref a) H F (Same.refl _) R e1⟩
    | io ds =>
      simp only [q, Option.some.injEq, Prod.mk.injEq] at e
      obtain ⟨rfl, rfl⟩ := e
      obtain ⟨a, vs, _, e1, _⟩ := ok
      exact ⟨.ref a, vAt_eq e1, k (.ref a) H F (Same.refl _) R e1⟩
theorem set_self {σ : L2.St} {i : Nat} {v : V} (h : vAt σ i = some v) : σ.set i (some v) = σ := by
  have e := vAt_eq h
  obtain ⟨hi, e⟩ := List.getElem?_eq_some_iff.mp e
  rw [← e]
  exact List.set_getElem_self hi
theorem Rl.own_fresh {F H : Hp} {σ : L2.St} {ρ : Ev} {i : Nat} {ds : List PyData} (R : Rl c F H σ ρ) (q : ρ[i]? = some (Sl.own ds)) : ∃ a vs, vAt σ i = some (.ref a) ∧ H a = some (.lst vs) ∧ Fresh c F H σ (ρ.set i .un) a ds ∧ Rl c F H σ (ρ.set i .un) := by
  obtain ⟨a, vs, e1, e2, e3, e4, e5, e6⟩ := R.sl i _ q
  have hi : i < ρ.length := (List.getElem?_eq_some_iff.mp q).1
  have old : ∀ j es, (ρ.set i .un)[j]? = some (Sl.own es) → i ≠ j ∧ ρ[j]? = some (Sl.own es) := fun j es h => by
    have n : i ≠ j := fun z => by
      subst z
      rw [List.getElem?_set_self hi] at h
      cases h
    rw [List.getElem?_set_ne n] at h
    exact ⟨n, h⟩
  refine ⟨a, vs, e1, e2, ⟨⟨vs, e2, e3⟩, e4, e5, e6, fun j es h z => ?_⟩, R.slots (by rw [List.length_set]; exact R.len) (fun j sl h => ?_) (fun j k b es fs h1 h2 h3 h4 => R.dj j k b es fs (old j es h1).2 (old k fs h2).2 h3 h4) (fun j k es fs h1 h2 => ?_)⟩
  · obtain ⟨n, h⟩ := old j es h
    exact n (R.dj i j a ds es q h e1 z)
  · by_cases n : i = j
    · subst n
      rw [List.getElem?_set_self hi] at h
      cases h
      trivial
    · rw [List.getElem?_set_ne n] at h
      exact R.sl j sl h
  · have n1 : i ≠ j := fun z => by
      subst z
      rw [List.getElem?_set_self hi] at h1
      cases h1
    have n2 : i ≠ k := fun z => by
      subst z
      rw [List.getElem?_set_self hi] at h2
      cases h2
    rw [List.getElem?_set_ne n1] at h1
    rw [List.getElem?_set_ne n2] at h2
    exact R.iu j k es fs h1 h2
theorem set_set_ev (ρ : Ev) (i : Nat) (a b : Sl) : (ρ.set i a).set i b = ρ.set i b := by
  apply List.ext_getElem?
  intro j
  by_cases h : i = j
  · subst h
    by_cases hi : i < ρ.length
    · rw [List.getElem?_set_self (by rw [List.length_set]; exact hi), List.getElem?_set_self hi]
    · rw [List.getElem?_eq_none (by simpa using hi), List.getElem?_eq_none (by simpa using hi)]
  · rw [List.getElem?_set_ne h, List.getElem?_set_ne h, List.getElem?_set_ne h]
theorem eo_v (i : Nat) {x : Str} (h : PE X (.Name x pos) (tVar i)) : EO c X (.Name x pos) (sV i) := by
  refine ⟨pe_imp h fun σ H Q ⟨F, ρ, y, ρ', R, e, k⟩ => ?_⟩
  unfold sV at e
  cases q : ρ[i]? with
  | none => simp [q] at e
  | some sl =>
    have ok := R.sl i sl q
    cases sl with
    | un => simp [q] at e
    | io ds => simp [q] at e
    | dat d =>
      simp only [q, Option.some.injEq, Prod.mk.injEq] at e
      obtain ⟨rfl, rfl⟩ := e
      obtain ⟨w, e1, e2⟩ := ok
      exact ⟨w, vAt_eq e1, k w H F (Same.refl _) R e2⟩
    | own ds =>
      simp only [q, Option.some.injEq, Prod.mk.injEq] at e
      obtain ⟨rfl, rfl⟩ := e
      obtain ⟨a, vs, e1, e2, fr, R1⟩ := R.own_fresh q
      have R2 := (R1.freeze fr e2)
      have e3' : DpAll c.K F vs ds := by
        obtain ⟨us, u1, u2⟩ := fr.at_
        rw [e2] at u1
        cases u1
        exact u2
      have dd : Dp c.K (upd F a (.lst vs)) (.ref a) (.list ds) := dp_frozen fr.nf e3'
      have R3 := R2.set (i := i) dd
      rw [set_self e1, set_set_ev] at R3
      exact ⟨.ref a, vAt_eq e1, k (.ref a) H _ (fun b o z => by rw [upd_ne (ne_of_none z fr.nf)]; exact z) R3 dd⟩
theorem eo_c {v : V} {d : PyData} (h : PE X e (tC v)) (hd : ∀ F, Dp c.K F v d) : EO c X e (sC d) := by
  refine ⟨pe_imp h fun σ H Q ⟨F, ρ, y, ρ', R, e, k⟩ => ?_⟩
  simp only [sC, Option.some.injEq, Prod.mk.injEq] at e
  obtain ⟨rfl, rfl⟩ := e
  exact k v H F (Same.refl _) R (hd F)
theorem eo_int {i : Int} {j : Nat} : EO c X (.Constant (.int i) j pos) (sC (.int i)) := eo_c pe_int fun _ => .int i
theorem eo_bl {i : Bool} {j : Nat} : EO c X (.Constant (.bool i) j pos) (sC (.bool i)) := eo_c pe_bl fun _ => .bl i
theorem eo_non {j : Nat} : EO c X (.Constant .none j pos) (sC .none) := eo_c pe_non fun _ => .non
theorem eo_str {i : Str} {j : Nat} : EO c X (.Constant (.str i) j pos) (sC (.str i)) := eo_c pe_str fun _ => .str i
/-- an int of the module -/
theorem eo_gint {x : Str} {i : Int} {t : Tok} (hg : Gl X x) (hm : X.mg x = some (.int i t)) (hd : (x == ("__debug__" : Str)) = false := by decide) : EO c X (.Name x pos) (sC (.int i)) := eo_c (pe_glob (v := .int i) hg hm ⟨t, rfl⟩ hd) fun _ => .int i

/-! ### two-place operations -/
def s2 (f : PyData → PyData → Option PyData) (fa fb : SE) : SE := fun ρ => match fa ρ with
  | none => none
  | some (x, ρ1) => match fb ρ1 with
    | none => none
    | some (y, ρ2) => match res ρ2 x, res ρ2 y with
      | some d, some e => (f d e).map fun z => (.d z, ρ2)
      | _, _ => none
theorem s2_inv {f : PyData → PyData → Option PyData} {ρ ρ' : Ev} {x : Ob} (h : s2 f fa fb ρ = some (x, ρ')) :
    ∃ u ρ1 v d e z, fa ρ = some (u, ρ1) ∧ fb ρ1 = some (v, ρ') ∧ res ρ' u = some d ∧ res ρ' v = some e ∧ f d e = some z ∧ x = .d z := by
  unfold s2 at h
  cases h1 : fa ρ with
  | none => simp [h1] at h
  | some p =>
    obtain ⟨u, ρ1⟩ := p
    simp only [h1] at h
    cases h2 : fb ρ1 with
    | none => simp [h2] at h
    | some q =>
      obtain ⟨v, ρ2⟩ := q
      simp only [h2] at h
      cases h3 : res ρ2 u with
      | none => simp [h3] at h
      | some d =>
        cases h4 : res ρ2 v with
        | none => simp [h3, h4] at h
        | some e =>
          simp only [h3, h4] at h
          cases h5 : f d e with
          | none => simp [h5] at h
          | some z =>
            simp only [h5, Option.map_some, Option.some.injEq, Prod.mk.injEq] at h
            obtain ⟨rfl, rfl⟩ := h
            exact ⟨u, ρ1, v, d, e, z, rfl, h2, h3, h4, h5, rfl⟩
/-- what r asks of the values holds where f gives data -/
def L2ok (K : PySem.W.Frag) (r : R2) (f : PyData → PyData → Option PyData) : Prop :=
  ∀ (F H : Hp) (x y : V) (d e z : PyData) (Q : VK), Same F H → Vw K F H x d → Vw K F H y e → f d e = some z → (∀ v F' H', Xt F H F' H' → Dp K F' v z → Q v H') → r x y H Q
theorem op2_use {r : R2} {f : PyData → PyData → Option PyData} (hl : L2ok c.K r f) {σ : L2.St} {H : Hp} {Q : VK} (h : rE c (s2 f fa fb) σ H Q) : tOp r (rE c fa) (rE c fb) σ H Q := by
  obtain ⟨F, ρ, x, ρ', R, e, k⟩ := h
  obtain ⟨u, ρ1, v, d, e', z, h1, h2, h3, h4, h5, rfl⟩ := s2_inv e
  refine ⟨F, ρ, u, ρ1, R, h1, fun xv H1 F1 s1 R1 o1 => ⟨F1, ρ1, v, ρ', R1, h2, fun yv H2 F2 s2 R2 o2 => ?_⟩⟩
  exact hl F2 H2 xv yv d e' z Q R2.sub (R2.vw (o1.same s2) h3) (R2.vw o2 h4) h5 fun w F3 H3 xt dz => k w H3 F3 (s1.trans (s2.trans xt.f)) (R2.xt xt) dz
theorem eo_op {op : Operator} {r : R2} {f : PyData → PyData → Option PyData} (ho : OpR X (binaryOp op) r) (hl : L2ok c.K r f) (ha : EO c X a fa) (hb : EO c X b fb) : EO c X (.BinOp a op b pos) (s2 f fa fb) :=
  ⟨pe_imp (pe_op ho ha.pe hb.pe) fun _ _ _ h => op2_use hl h⟩
theorem eo_cmp {op : CmpOp} {r : R2} {f : PyData → PyData → Option PyData} (ho : OpR X (compareOp op) r) (hl : L2ok c.K r f) (ha : EO c X a fa) (hb : EO c X b fb) (hm : behindInMarks op b = false) : EO c X (.Compare a [op] [b] pos) (s2 f fa fb) :=
  ⟨pe_imp (pe_cmpR ho ha.pe hb.pe hm) fun _ _ _ h => op2_use hl h⟩
theorem eo_ix {r : R2} {f : PyData → PyData → Option PyData} (ho : IxR X r) (hl : L2ok c.K r f) (ha : EO c X a fa) (hb : EO c X b fb) (hs : PlainIx b) : EO c X (.Subscript a b pos) (s2 f fa fb) :=
  ⟨pe_imp (pe_ix ho ha.pe hb.pe hs) fun _ _ _ h => op2_use hl h⟩
/-- the same as a test -/
def toT (f : SE) : STe := fun ρ => match f ρ with
  | some (.d (.bool b), ρ') => some (b, ρ')
  | _ => none
theorem toT_inv {f : SE} {ρ ρ' : Ev} {b : Bool} (h : toT f ρ = some (b, ρ')) : f ρ = some (.d (.bool b), ρ') := by
  unfold toT at h
  cases e : f ρ with
  | none => simp [e] at h
  | some p =>
    obtain ⟨x, ρ1⟩ := p
    cases x with
    | s i => simp [e] at h
    | d z =>
      cases z with
      | bool b' =>
        simp only [e, Option.some.injEq, Prod.mk.injEq] at h
        obtain ⟨rfl, rfl⟩ := h
        rfl
      | _ => simp [e] at h
theorem rT_toT {f : SE} {σ : L2.St} {H : Hp} {Q : Bool → Hp → Prop} (h : rT c (toT f) σ H Q) : rE c f σ H fun x H' => ∃ k, x = .bl k ∧ Q k H' := by
  obtain ⟨F, ρ, b, ρ', R, e, k⟩ := h
  refine ⟨F, ρ, _, ρ', R, toT_inv e, fun v H' F' s R' o => ?_⟩
  cases o
  exact ⟨b, rfl, k H' F' s R'⟩
theorem et_cmp {op : CmpOp} {r : R2} {f : PyData → PyData → Option PyData} (ho : OpR X (compareOp op) r) (hl : L2ok c.K r f) (ha : EO c X a fa) (hb : EO c X b fb) (hm : behindInMarks op b = false) : ET c X (.Compare a [op] [b] pos) (toT (s2 f fa fb)) :=
  ⟨pt_imp (pt_cmpR ho ha.pe hb.pe hm) fun _ _ _ h => op2_use hl (rT_toT h)⟩
/-- a truth value as a test -/
theorem et_val (ha : EO c X e fa) (he : ∀ whole, isTrue e X.env whole = (do let v ← whole; standAt e.pos; holding [v] (truthy v)) := by intro _; rfl) : ET c X e (toT fa) :=
  ⟨pt_imp (pt_val ha.pe he) fun _ _ _ h => rT_toT h⟩
def truth : PyData → Option Bool
  | .none => some false
  | .bool b => some b
  | .int i => some (i != 0)
  | .list xs => some (!xs.isEmpty)
  | .tuple xs => some (!xs.isEmpty)
  | _ => none
def sTr (f : SE) : STe := fun ρ => match f ρ with
  | some (x, ρ') => match res ρ' x with
    | some d => (truth d).map fun b => (b, ρ')
    | none => none
  | none => none

/-! ### chains -/
def sChain (f g : PyData → PyData → Option PyData) (fa fb fc : SE) : SE := fun ρ => match fa ρ with
  | none => none
  | some (x, ρ1) => match fb ρ1 with
    | none => none
    | some (y, ρ2) => match res ρ2 x, res ρ2 y with
      | some d, some e => match f d e with
        | some (.bool true) => match fc ρ2 with
          | none => none
          | some (z, ρ3) => match res ρ3 y, res ρ3 z with
            | some e', some h => (g e' h).map fun w => (.d w, ρ3)
            | _, _ => none
        | some (.bool false) => some (.d (.bool false), ρ2)
        | _ => none
      | _, _ => none

/-! ### and, or, not, the choice -/
def sAnd (fa fb : SE) : SE := fun ρ => match fa ρ with
  | some (.d (.bool true), ρ1) => fb ρ1
  | some (.d (.bool false), ρ1) => some (.d (.bool false), ρ1)
  | _ => none
def sOr (fa fb : SE) : SE := fun ρ => match fa ρ with
  | some (.d (.bool false), ρ1) => fb ρ1
  | some (.d (.bool true), ρ1) => some (.d (.bool true), ρ1)
  | _ => none
def sNot (fa : SE) : SE := fun ρ => match fa ρ with
  | some (.d (.bool b), ρ1) => some (.d (.bool (!b)), ρ1)
  | _ => none
theorem bool_cases {f : SE} {ρ : Ev} {α : Type} {k1 k2 : Ev → Option α} {z : α} (h : (match f ρ with
    | some (.d (.bool true), ρ1) => k1 ρ1
    | some (.d (.bool false), ρ1) => k2 ρ1
    | _ => none) = some z) : ∃ b ρ1, f ρ = some (.d (.bool b), ρ1) ∧ (if b = true then k1 ρ1 else k2 ρ1) = some z := by
  cases e : f ρ with
  | none => simp [e] at h
  | some p =>
    obtain ⟨x, ρ1⟩ := p
    cases x with
    | s i => simp [e] at h
    | d w =>
      cases w with
      | bool b =>
        cases b with
        | true => exact ⟨true, ρ1, rfl, by simpa [e] using h⟩
        | false => exact ⟨false, ρ1, rfl, by simpa [e] using h⟩
      | _ => simp [e] at h
theorem eo_and {rest : List Expr} (ha : EO c X a fa) (hb : EO c X (.BoolOp .And (b :: rest) pos) fb) : EO c X (.BoolOp .And (a :: b :: rest) pos) (sAnd fa fb) := by
  refine ⟨pe_imp (pe_and ha.pe hb.pe) fun σ H Q ⟨F, ρ, x, ρ', R, e, k⟩ => ?_⟩
  obtain ⟨t, ρ1, h1, h2⟩ := bool_cases (f := fa) (k1 := fb) (k2 := fun ρ1 => some (.d (.bool false), ρ1)) e
  refine ⟨F, ρ, _, ρ1, R, h1, fun v H' F' s R' o => ?_⟩
  cases o
  refine ⟨t, rfl, ?_⟩
  cases t with
  | true => exact ⟨F', ρ1, x, ρ', R', h2, fun w H2 F2 s2 R2 o2 => k w H2 F2 (s.trans s2) R2 o2⟩
  | false =>
    simp only [Bool.false_eq_true, if_false, Option.some.injEq, Prod.mk.injEq] at h2 ⊢
    obtain ⟨rfl, rfl⟩ := h2
    exact k _ H' F' s R' (.bl false)
theorem eo_or {rest : List Expr} (ha : EO c X a fa) (hb : EO c X (.BoolOp .Or (b :: rest) pos) fb) : EO c X (.BoolOp .Or (a :: b :: rest) pos) (sOr fa fb) := by
  refine ⟨pe_imp (pe_or ha.pe hb.pe) fun σ H Q ⟨F, ρ, x, ρ', R, e, k⟩ => ?_⟩
  obtain ⟨t, ρ1, h1, h2⟩ := bool_cases (f := fa) (k1 := fun ρ1 => some (.d (.bool true), ρ1)) (k2 := fb) (z := (x, ρ')) (by
    rw [← e]
    unfold sOr
    cases fa ρ with
    | none => rfl
    | some p =>
      obtain ⟨y, r⟩ := p
      cases y with
      | s i => rfl
      | d w => cases w with
        | bool b => cases b <;> rfl
        | _ => rfl)
  refine ⟨F, ρ, _, ρ1, R, h1, fun v H' F' s R' o => ?_⟩
  cases o
  refine ⟨t, rfl, ?_⟩
  cases t with
  | false => exact ⟨F', ρ1, x, ρ', R', h2, fun w H2 F2 s2 R2 o2 => k w H2 F2 (s.trans s2) R2 o2⟩
  | true =>
    simp only [if_true, Option.some.injEq, Prod.mk.injEq] at h2 ⊢
    obtain ⟨rfl, rfl⟩ := h2
    exact k _ H' F' s R' (.bl true)
theorem eo_one {op : BoolOp} (ha : EO c X a fa) : EO c X (.BoolOp op [a] pos) fa := ⟨pe_one ha.pe⟩
theorem eo_not (ha : EO c X a fa) : EO c X (.UnaryOp .Not a pos) (sNot fa) := by
  refine ⟨pe_imp (pe_not ha.pe) fun σ H Q ⟨F, ρ, x, ρ', R, e, k⟩ => ?_⟩
  obtain ⟨t, ρ1, h1, h2⟩ := bool_cases (f := fa) (k1 := fun ρ1 => some (Ob.d (.bool false), ρ1)) (k2 := fun ρ1 => some (Ob.d (.bool true), ρ1)) (z := (x, ρ')) (by
    rw [← e]
    unfold sNot
    cases fa ρ with
    | none => rfl
    | some p =>
      obtain ⟨y, r⟩ := p
      cases y with
      | s i => rfl
      | d w => cases w with
        | bool b => cases b <;> rfl
        | _ => rfl)
  refine ⟨F, ρ, _, ρ1, R, h1, fun v H' F' s R' o => ?_⟩
  cases o
  refine ⟨t, rfl, ?_⟩
  cases t with
  | true =>
    simp only [if_true, Option.some.injEq, Prod.mk.injEq] at h2
    obtain ⟨rfl, rfl⟩ := h2
    exact k _ H' F' s R' (.bl false)
  | false =>
    simp only [Bool.false_eq_true, if_false, Option.some.injEq, Prod.mk.injEq] at h2
    obtain ⟨rfl, rfl⟩ := h2
    exact k _ H' F' s R' (.bl true)
def sIf (t : STe) (fa fb : SE) : SE := fun ρ => match t ρ with
  | some (true, ρ1) => fa ρ1
  | some (false, ρ1) => fb ρ1
  | none => none
theorem eo_if {t : STe} {q : Expr} (ht : ET c X q t) (ha : EO c X a fa) (hb : EO c X b fb) : EO c X (.IfExp q a b pos) (sIf t fa fb) := by
  refine ⟨pe_imp (pe_ifExp ht.pt ha.pe hb.pe) fun σ H Q ⟨F, ρ, x, ρ', R, e, k⟩ => ?_⟩
  unfold sIf at e
  cases h1 : t ρ with
  | none => simp [h1] at e
  | some p =>
    obtain ⟨bb, ρ1⟩ := p
    refine ⟨F, ρ, bb, ρ1, R, h1, fun H' F' s R' => ?_⟩
    cases bb with
    | true =>
      simp only [h1] at e
      exact ⟨F', ρ1, x, ρ', R', e, fun w H2 F2 s2 R2 o2 => k w H2 F2 (s.trans s2) R2 o2⟩
    | false =>
      simp only [h1] at e
      exact ⟨F', ρ1, x, ρ', R', e, fun w H2 F2 s2 R2 o2 => k w H2 F2 (s.trans s2) R2 o2⟩
/-! ### tests -/
def tAnd' (ta tb : STe) : STe := fun ρ => match ta ρ with
  | some (true, ρ1) => tb ρ1
  | some (false, ρ1) => some (false, ρ1)
  | none => none
def tOr' (ta tb : STe) : STe := fun ρ => match ta ρ with
  | some (false, ρ1) => tb ρ1
  | some (true, ρ1) => some (true, ρ1)
  | none => none
def tNot' (ta : STe) : STe := fun ρ => match ta ρ with
  | some (b, ρ1) => some (!b, ρ1)
  | none => none
theorem ew_and {ta tb : STe} {rest : List Expr} (ha : ET c X a ta) (hb : EW c X (.BoolOp .And (b :: rest) pos) tb) : EW c X (.BoolOp .And (a :: b :: rest) pos) (tAnd' ta tb) := by
  refine ⟨pw_imp (pw_and ha.pt hb.pw) fun σ H Q ⟨F, ρ, x, ρ', R, e, k⟩ => ?_⟩
  unfold tAnd' at e
  cases h1 : ta ρ with
  | none => simp [h1] at e
  | some p =>
    obtain ⟨bb, ρ1⟩ := p
    refine ⟨F, ρ, bb, ρ1, R, h1, fun H' F' s R' => ?_⟩
    cases bb with
    | true =>
      simp only [h1] at e
      exact ⟨F', ρ1, x, ρ', R', e, fun H2 F2 s2 R2 => k H2 F2 (s.trans s2) R2⟩
    | false =>
      simp only [h1, Option.some.injEq, Prod.mk.injEq] at e
      obtain ⟨rfl, rfl⟩ := e
      exact k H' F' s R'
theorem ew_or {ta tb : STe} {rest : List Expr} (ha : ET c X a ta) (hb : EW c X (.BoolOp .Or (b :: rest) pos) tb) : EW c X (.BoolOp .Or (a :: b :: rest) pos) (tOr' ta tb) := by
  refine ⟨pw_imp (pw_or ha.pt hb.pw) fun σ H Q ⟨F, ρ, x, ρ', R, e, k⟩ => ?_⟩
  unfold tOr' at e
  cases h1 : ta ρ with
  | none => simp [h1] at e
  | some p =>
    obtain ⟨bb, ρ1⟩ := p
    refine ⟨F, ρ, bb, ρ1, R, h1, fun H' F' s R' => ?_⟩
    cases bb with
    | false =>
      simp only [h1] at e
      exact ⟨F', ρ1, x, ρ', R', e, fun H2 F2 s2 R2 => k H2 F2 (s.trans s2) R2⟩
    | true =>
      simp only [h1, Option.some.injEq, Prod.mk.injEq] at e
      obtain ⟨rfl, rfl⟩ := e
      exact k H' F' s R'
theorem ew_and1 {ta : STe} (ha : ET c X a ta) : EW c X (.BoolOp .And [a] pos) ta := ⟨pw_and1 ha.pt⟩
theorem ew_or1 {ta : STe} (ha : ET c X a ta) : EW c X (.BoolOp .Or [a] pos) ta := ⟨pw_or1 ha.pt⟩
theorem et_w {ta : STe} (h : EW c X e ta) : ET c X e ta := ⟨h.pw.pt⟩
theorem et_not {ta : STe} (ha : ET c X a ta) : ET c X (.UnaryOp .Not a pos) (tNot' ta) := by
  refine ⟨pt_imp (pt_not ha.pt) fun σ H Q ⟨F, ρ, x, ρ', R, e, k⟩ => ?_⟩
  unfold tNot' at e
  cases h1 : ta ρ with
  | none => simp [h1] at e
  | some p =>
    obtain ⟨bb, ρ1⟩ := p
    simp only [h1, Option.some.injEq, Prod.mk.injEq] at e
    obtain ⟨rfl, rfl⟩ := e
    exact ⟨F, ρ, bb, ρ1, R, h1, fun H' F' s R' => k H' F' s R'⟩
/-! ### argument lists -/
def sNil : SA := fun ρ => some ([], ρ)
def sCons (fa : SE) (fr : SA) : SA := fun ρ => match fa ρ with
  | none => none
  | some (x, ρ1) => match fr ρ1 with
    | none => none
    | some (xs, ρ2) => some (x :: xs, ρ2)
theorem ea_nil : EA c X [] sNil := by
  refine ⟨pa_imp pa_nil fun σ H Q ⟨F, ρ, x, ρ', R, e, k⟩ => ?_⟩
  simp only [sNil, Option.some.injEq, Prod.mk.injEq] at e
  obtain ⟨rfl, rfl⟩ := e
  exact k [] H F (Same.refl _) R trivial
theorem ea_cons {es : List Expr} {fr : SA} (ha : EO c X e fa) (hr : EA c X es fr) (hs : starEach (e :: es) X.env = (false, eval e X.env) :: starEach es X.env := by rfl) : EA c X (e :: es) (sCons fa fr) := by
  refine ⟨pa_imp (pa_cons ha.pe hr.pa hs) fun σ H Q ⟨F, ρ, x, ρ', R, e, k⟩ => ?_⟩
  unfold sCons at e
  cases h1 : fa ρ with
  | none => simp [h1] at e
  | some p =>
    obtain ⟨u, ρ1⟩ := p
    simp only [h1] at e
    cases h2 : fr ρ1 with
    | none => simp [h2] at e
    | some q =>
      obtain ⟨us, ρ2⟩ := q
      simp only [h2, Option.some.injEq, Prod.mk.injEq] at e
      obtain ⟨rfl, rfl⟩ := e
      exact ⟨F, ρ, u, ρ1, R, h1, fun v H1 F1 s1 R1 o1 => ⟨F1, ρ1, us, ρ2, R1, h2, fun vs H2 F2 s2 R2 o2 => k (v :: vs) H2 F2 (s1.trans s2) R2 ⟨o1.same s2, o2⟩⟩⟩
end
end PD

/-! Plain data: targets, statements, loops -/
namespace PD
open PySem PySem.Spec PyProof.Rows L2 GxR

inductive Fl where
  | nx | rt (d : PyData) | bk | ct
abbrev SS := Ev → Option (Fl × Ev)
abbrev SG := PyData → Ev → Option Ev
abbrev SGs := List PyData → Ev → Option Ev
abbrev SI := Ev → Option (List PyData × Ev)

def FlK (c : Co) (F : Hp) (D : Ends) (fl : Fl) (σ : L2.St) (H : Hp) : Prop := match fl with
  | .nx => D.nx σ H
  | .bk => D.bk σ H
  | .ct => D.ct σ H
  | .rt d => ∀ v, Dp c.K F v d → D.rt v H
def rS (c : Co) (f : SS) : TS := fun D σ H => ∃ F ρ fl ρ', Rl c F H σ ρ ∧ f ρ = some (fl, ρ') ∧ ∀ σ' H' F', Same F F' → Rl c F' H' σ' ρ' → FlK c F' D fl σ' H'
/-- alike but at the places ks -/
def But (ks : List Nat) (σ σ' : L2.St) : Prop := σ'.length = σ.length ∧ ∀ j : Nat, j ∉ ks → σ'[j]? = σ[j]?
def rG (c : Co) (g : SG) (ks : List Nat) : TG := fun x σ H Q => ∃ F ρ d ρ', Rl c F H σ ρ ∧ Dp c.K F x d ∧ g d ρ = some ρ' ∧ ∀ σ', But ks σ σ' → Rl c F H σ' ρ' → Q σ' H
def rGs (c : Co) (g : SGs) (ks : List Nat) : TGs := fun xs σ H Q => ∃ F ρ ds ρ', Rl c F H σ ρ ∧ DpAll c.K F xs ds ∧ g ds ρ = some ρ' ∧ ∀ σ', But ks σ σ' → Rl c F H σ' ρ' → Q σ' H
/-- from F on, J yields the items -/
structure Wk (c : Co) (J : It) (F : Hp) (items : List PyData) : Prop where
  go : ∀ i d F2 H2, items[i]? = some d → Same F F2 → Same F2 H2 → J.go i H2 ∧ ∀ x H3, J.yld i H2 x H3 → ∃ F3, Xt F2 H2 F3 H3 ∧ Dp c.K F3 x d
  stop : ∀ F2 H2, Same F F2 → Same F2 H2 → J.stop items.length H2
def rIt (c : Co) (f : SI) : TI := fun σ H R => ∃ F ρ items ρ', Rl c F H σ ρ ∧ f ρ = some (items, ρ') ∧ ∀ J H' F', Same F F' → Rl c F' H' σ ρ' → Wk c J F' items → R J H'

structure ES (c : Co) (X : Cx) (s : Stmt) (f : SS) : Prop where
  ps : PS X s (rS c f)
structure ESs (c : Co) (X : Cx) (s : List Stmt) (f : SS) : Prop where
  pss : PSs X s (rS c f)
structure EG (c : Co) (X : Cx) (e : Expr) (g : SG) (ks : List Nat) : Prop where
  pg : PG X e (rG c g ks)
structure EGs (c : Co) (X : Cx) (e : List Expr) (g : SGs) (ks : List Nat) : Prop where
  pgs : PGs X e (rGs c g ks)
structure EI (c : Co) (X : Cx) (tg e : Expr) (f : SI) : Prop where
  pi : PI X tg e (rIt c f)

theorem ps_imp {X : Cx} {e : Stmt} {t t' : TS} (h : PS X e t) (i : ∀ D σ H, t' D σ H → t D σ H) : PS X e t' := ⟨fun pins s σ H D I q => h.run pins s σ H D I (i D σ H q)⟩
theorem pss_imp {X : Cx} {e : List Stmt} {t t' : TS} (h : PSs X e t) (i : ∀ D σ H, t' D σ H → t D σ H) : PSs X e t' := ⟨fun pins s σ H D I q => h.run pins s σ H D I (i D σ H q)⟩
theorem pg_imp {X : Cx} {e : Expr} {t t' : TG} (h : PG X e t) (i : ∀ x σ H Q, t' x σ H Q → t x σ H Q) : PG X e t' := ⟨fun pins s σ H v u Q I r q => h.run pins s σ H v u Q I r (i v σ H Q q)⟩
theorem pgs_imp {X : Cx} {e : List Expr} {t t' : TGs} (h : PGs X e t) (i : ∀ x σ H Q, t' x σ H Q → t x σ H Q) : PGs X e t' := ⟨fun pins s σ H v u Q I r q => h.run pins s σ H v u Q I r (i v σ H Q q)⟩

section
variable {c : Co} {X : Cx} {e tg : Expr} {pos : Pos}
/-! ### targets -/
def gN (i : Nat) : SG := fun d ρ => some (ρ.set i (.dat d))
theorem eg_n (i : Nat) {x : Str} (h : PG X (.Name x pos) (gName i)) : EG c X (.Name x pos) (gN i) [i] := by
  refine ⟨pg_imp h fun x σ H Q ⟨F, ρ, d, ρ', R, hx, e, k⟩ => ?_⟩
  cases e
  exact k _ ⟨List.length_set, fun j hj => List.getElem?_set_ne (fun z => hj (by rw [z]; simp))⟩ (R.set hx)
def gsNil : SGs := fun ds ρ => match ds with
  | [] => some ρ
  | _ => none
def gsCons (g : SG) (gs : SGs) : SGs := fun ds ρ => match ds with
  | d :: r => match g d ρ with
    | some ρ1 => gs r ρ1
    | none => none
  | _ => none
theorem egs_nil : EGs c X [] gsNil [] := by
  refine ⟨pgs_imp pgs_nil fun xs σ H Q ⟨F, ρ, ds, ρ', R, hx, e, k⟩ => ?_⟩
  cases hx with
  | nil =>
    cases e
    exact ⟨rfl, k _ ⟨rfl, fun _ _ => rfl⟩ R⟩
  | cons a b => cases e
theorem egs_cons {es : List Expr} {g : SG} {gs : SGs} {ks ls : List Nat} (hg : EG c X e g ks) (hs : EGs c X es gs ls) (h : ∀ {t u}, PG X e t → PGs X es u → PGs X (e :: es) (gCons t u)) : EGs c X (e :: es) (gsCons g gs) (ks ++ ls) := by
  refine ⟨pgs_imp (h hg.pg hs.pgs) fun xs σ H Q ⟨F, ρ, ds, ρ', R, hx, e, k⟩ => ?_⟩
  cases hx with
  | nil => cases e
  | cons a b =>
    unfold gsCons at e
    dsimp only at e
    cases e1 : g _ ρ with
    | none => rw [e1] at e; cases e
    | some ρ1 =>
      rw [e1] at e
      refine ⟨_, _, rfl, F, ρ, _, ρ1, R, a, e1, fun σ1 b1 R1 => ?_⟩
      exact ⟨F, ρ1, _, ρ', R1, b, e, fun σ2 b2 R2 => k σ2 ⟨b2.1.trans b1.1, fun j hj => (b2.2 j fun z => hj (List.mem_append_right _ z)).trans (b1.2 j fun z => hj (List.mem_append_left _ z))⟩ R2⟩
def gT (gs : SGs) (n : Nat) : SG := fun d ρ => match d with
  | .tuple ds => if ds.length = n then gs ds ρ else none
  | _ => none
theorem eg_t {es : List Expr} {k n : Nat} {gs : SGs} {ks : List Nat} (h : EGs c X es gs ks) (hp : ∀ {t}, PGs X es t → PG X (.Tuple es k pos) (gTup X.K n t)) (hK : X.K = c.K) : EG c X (.Tuple es k pos) (gT gs n) ks := by
  refine ⟨pg_imp (hp h.pgs) fun x σ H Q ⟨F, ρ, d, ρ', R, hx, e, k⟩ => ?_⟩
  unfold gT at e
  cases d with
  | tuple ds =>
    simp only at e
    split at e
    · rename_i hn
      cases hx with
      | tup hS hs =>
        refine ⟨_, _, rfl, ?_, by rw [dpAll_len hs]; exact hn, F, ρ, ds, ρ', R, hs, e, k⟩
        rw [hK]
        exact sqT_same R.sub hS
    · cases e
  | _ => cases e

/-! ### statements -/
def sNx : SS := fun ρ => some (.nx, ρ)
def sSeq (f g : SS) : SS := fun ρ => match f ρ with
  | some (.nx, ρ1) => g ρ1
  | r => r
theorem ess_nil : ESs c X [] sNx := by
  refine ⟨pss_imp pss_nil fun D σ H ⟨F, ρ, fl, ρ', R, e, k⟩ => ?_⟩
  cases e
  exact k σ H F (Same.refl _) R
theorem ess_cons {s : Stmt} {ss : List Stmt} {f g : SS} (h1 : ES c X s f) (h2 : ESs c X ss g) : ESs c X (s :: ss) (sSeq f g) := by
  refine ⟨pss_imp (pss_cons h1.ps h2.pss) fun D σ H ⟨F, ρ, fl, ρ', R, e, k⟩ => ?_⟩
  unfold sSeq at e
  cases e1 : f ρ with
  | none => simp [e1] at e
  | some p =>
    obtain ⟨f1, ρ1⟩ := p
    refine ⟨F, ρ, f1, ρ1, R, e1, fun σ' H' F' s' R' => ?_⟩
    cases f1 with
    | nx =>
      simp only [e1] at e
      exact ⟨F', ρ1, fl, ρ', R', e, fun σ2 H2 F2 s2 R2 => k σ2 H2 F2 (s'.trans s2) R2⟩
    | bk =>
      simp only [e1, Option.some.injEq, Prod.mk.injEq] at e
      obtain ⟨rfl, rfl⟩ := e
      exact k σ' H' F' s' R'
    | ct =>
      simp only [e1, Option.some.injEq, Prod.mk.injEq] at e
      obtain ⟨rfl, rfl⟩ := e
      exact k σ' H' F' s' R'
    | rt d =>
      simp only [e1, Option.some.injEq, Prod.mk.injEq] at e
      obtain ⟨rfl, rfl⟩ := e
      exact k σ' H' F' s' R'
theorem ess_one {s : Stmt} {f : SS} (h : ES c X s f) : ESs c X [s] f := ⟨pss_one h.ps⟩
def sAsg (f : SE) (g : SG) : SS := fun ρ => match f ρ with
  | some (.d d, ρ1) => (g d ρ1).map fun ρ2 => (.nx, ρ2)
  | _ => none
theorem es_asg {f : SE} {g : SG} {st : Stmt} (h : ∀ {te : TE} {tg' : TG}, PE X e te → PG X tg tg' → PS X st (tAsg te tg')) (he : EO c X e f) {ks : List Nat} (hg : EG c X tg g ks) : ES c X st (sAsg f g) := by
  refine ⟨ps_imp (h he.pe hg.pg) fun D σ H ⟨F, ρ, fl, ρ', R, e, k⟩ => ?_⟩
  unfold sAsg at e
  cases e1 : f ρ with
  | none => simp [e1] at e
  | some p =>
    obtain ⟨x, ρ1⟩ := p
    cases x with
    | s i => simp [e1] at e
    | d d =>
      simp only [e1] at e
      cases e2 : g d ρ1 with
      | none => simp [e2] at e
      | some ρ2 =>
        simp only [e2, Option.map_some, Option.some.injEq, Prod.mk.injEq] at e
        obtain ⟨rfl, rfl⟩ := e
        exact ⟨F, ρ, _, ρ1, R, e1, fun v H' F' s' R' o => ⟨F', ρ1, d, ρ2, R', o, e2, fun σ2 _ R2 => k σ2 H' F' s' R2⟩⟩
def sRet (f : SE) : SS := fun ρ => match f ρ with
  | some (.d d, ρ1) => some (.rt d, ρ1)
  | _ => none
theorem dp_flat {K : PySem.W.Frag} {F : Hp} {v : V} {d : PyData} (h : Dp K F v d) : ∀ w, Dp K F w d → True := fun _ _ => trivial
def sExp (f : SE) : SS := fun ρ => match f ρ with
  | some (_, ρ1) => some (.nx, ρ1)
  | _ => none
theorem es_exp {f : SE} (he : EO c X e f) (hs : swapsWith e none pos.line X.env = pure false := by rfl) : ES c X (.Expr e pos) (sExp f) := by
  refine ⟨ps_imp (ps_expr he.pe hs) fun D σ H ⟨F, ρ, fl, ρ', R, e, k⟩ => ?_⟩
  unfold sExp at e
  cases e1 : f ρ with
  | none => simp [e1] at e
  | some p =>
    obtain ⟨x, ρ1⟩ := p
    simp only [e1, Option.some.injEq, Prod.mk.injEq] at e
    obtain ⟨rfl, rfl⟩ := e
    exact ⟨F, ρ, x, ρ1, R, e1, fun v H' F' s' R' o => k σ H' F' s' R'⟩
def sIfS (t : STe) (f g : SS) : SS := fun ρ => match t ρ with
  | some (true, ρ1) => f ρ1
  | some (false, ρ1) => g ρ1
  | none => none
theorem es_if {t : STe} {f g : SS} {q : Expr} {a b : List Stmt} (ht : ET c X q t) (ha : ESs c X a f) (hb : ESs c X b g) : ES c X (.If q a b pos) (sIfS t f g) := by
  refine ⟨ps_imp (ps_if ht.pt ha.pss hb.pss) fun D σ H ⟨F, ρ, fl, ρ', R, e, k⟩ => ?_⟩
  unfold sIfS at e
  cases h1 : t ρ with
  | none => simp [h1] at e
  | some p =>
    obtain ⟨bb, ρ1⟩ := p
    refine ⟨F, ρ, bb, ρ1, R, h1, fun H' F' s R' => ?_⟩
    cases bb with
    | true =>
      simp only [h1] at e
      exact ⟨F', ρ1, fl, ρ', R', e, fun σ2 H2 F2 s2 R2 => k σ2 H2 F2 (s.trans s2) R2⟩
    | false =>
      simp only [h1] at e
      exact ⟨F', ρ1, fl, ρ', R', e, fun σ2 H2 F2 s2 R2 => k σ2 H2 F2 (s.trans s2) R2⟩
def sNever : SS := fun _ => none
theorem es_never {s : Stmt} : ES c X s sNever := ⟨⟨fun pins s σ H D I ⟨F, ρ, fl, ρ', R, e, k⟩ => by cases e⟩⟩
theorem es_pass : ES c X (.Pass pos) sNx := by
  refine ⟨ps_imp ps_pass fun D σ H ⟨F, ρ, fl, ρ', R, e, k⟩ => ?_⟩
  cases e
  exact k σ H F (Same.refl _) R
theorem es_break : ES c X (.Break pos) (fun ρ => some (.bk, ρ)) := by
  refine ⟨ps_imp ps_break fun D σ H ⟨F, ρ, fl, ρ', R, e, k⟩ => ?_⟩
  cases e
  exact k σ H F (Same.refl _) R
theorem es_continue : ES c X (.Continue pos) (fun ρ => some (.ct, ρ)) := by
  refine ⟨ps_imp ps_continue fun D σ H ⟨F, ρ, fl, ρ', R, e, k⟩ => ?_⟩
  cases e
  exact k σ H F (Same.refl _) R

/-! ### loops -/
def loopS (g : SG) (b : SS) : List PyData → Ev → Option (Fl × Ev)
  | [], ρ => some (.nx, ρ)
  | d :: ds, ρ => match g d ρ with
    | none => none
    | some ρ1 => match b ρ1 with
      | none => none
      | some (.nx, ρ2) => loopS g b ds ρ2
      | some (.ct, ρ2) => loopS g b ds ρ2
      | some (.bk, ρ2) => some (.nx, ρ2)
      | some (.rt d, ρ2) => some (.rt d, ρ2)
def sFor (g : SG) (fi : SI) (b : SS) : SS := fun ρ => match fi ρ with
  | some (items, ρ1) => loopS g b items ρ1
  | none => none
theorem es_for {iter : Expr} {body : List Stmt} {g : SG} {fi : SI} {b : SS} {st : Stmt} (h : ∀ {wi : TI} {g' : TG} {tb : TS}, PI X tg iter wi → PG X tg g' → PSs X body tb → PS X st (tFor wi g' tb)) (hi : EI c X tg iter fi) {ks : List Nat} (hg : EG c X tg g ks) (hb : ESs c X body b) : ES c X st (sFor g fi b) := by
  refine ⟨ps_imp (h hi.pi hg.pg hb.pss) fun D σ H ⟨F, ρ, fl, ρ', R, e, k⟩ => ?_⟩
  unfold sFor at e
  cases e1 : fi ρ with
  | none => simp [e1] at e
  | some p =>
    obtain ⟨items, ρ1⟩ := p
    simp only [e1] at e
    refine ⟨F, ρ, items, ρ1, R, e1, fun J H1 F1 s1 R1 wk => ?_⟩
    refine ⟨fun i m σ H => i + m = items.length ∧ ∃ F2 ρ2, Same F1 F2 ∧ Rl c F2 H σ ρ2 ∧ loopS g b (items.drop i) ρ2 = some (fl, ρ'), ⟨items.length, by omega, F1, ρ1, Same.refl _, R1, e⟩, ?_⟩
    rintro i m σ2 H2 ⟨him, F2, ρ2, s2, R2, e2⟩
    cases m with
    | zero =>
      have hi : i = items.length := by omega
      rw [hi, List.drop_length] at e2
      simp only [loopS, Option.some.injEq, Prod.mk.injEq] at e2
      obtain ⟨rfl, rfl⟩ := e2
      rw [hi]
      exact .inl ⟨wk.stop F2 H2 s2 R2.sub, k σ2 H2 F2 (s1.trans s2) R2⟩
    | succ m =>
      have hi : i < items.length := by omega
      rw [List.drop_eq_getElem_cons hi] at e2
      have at_ : items[i]? = some items[i] := List.getElem?_eq_getElem hi
      obtain ⟨go, yl⟩ := wk.go i _ F2 H2 at_ s2 R2.sub
      simp only [loopS] at e2
      cases e3 : g items[i] ρ2 with
      | none => simp [e3] at e2
      | some ρ3 =>
        simp only [e3] at e2
        cases e4 : b ρ3 with
        | none => simp [e4] at e2
        | some q =>
          obtain ⟨f4, ρ4⟩ := q
          simp only [e4] at e2
          refine .inr ⟨go, fun σ' H' => i + 1 + m = items.length ∧ ∃ F2 ρ2, Same F1 F2 ∧ Rl c F2 H' σ' ρ2 ∧ loopS g b (items.drop (i + 1)) ρ2 = some (fl, ρ'), fun σ' H' hN => ⟨m, by omega, hN⟩, fun x H3 hy => ?_⟩
          obtain ⟨F3, xt, dx⟩ := yl x H3 hy
          refine ⟨F3, ρ2, _, ρ3, R2.xt xt, dx, e3, fun σ5 _ R5 => ⟨F3, ρ3, f4, ρ4, R5, e4, fun σ6 H6 F6 s6 R6 => ?_⟩⟩
          have s16 : Same F1 F6 := s2.trans (xt.f.trans s6)
          cases f4 with
          | nx => exact ⟨by omega, F6, ρ4, s16, R6, e2⟩
          | ct => exact ⟨by omega, F6, ρ4, s16, R6, e2⟩
          | bk =>
            simp only [Option.some.injEq, Prod.mk.injEq] at e2
            obtain ⟨rfl, rfl⟩ := e2
            exact k σ6 H6 F6 (s1.trans s16) R6
          | rt d =>
            simp only [Option.some.injEq, Prod.mk.injEq] at e2
            obtain ⟨rfl, rfl⟩ := e2
            exact k σ6 H6 F6 (s1.trans s16) R6
def loopW (t : STe) (b : SS) : Nat → Ev → Option (Fl × Ev)
  | 0, _ => none
  | n + 1, ρ => match t ρ with
    | none => none
    | some (false, ρ1) => some (.nx, ρ1)
    | some (true, ρ1) => match b ρ1 with
      | none => none
      | some (.nx, ρ2) => loopW t b n ρ2
      | some (.ct, ρ2) => loopW t b n ρ2
      | some (.bk, ρ2) => some (.nx, ρ2)
      | some (.rt d, ρ2) => some (.rt d, ρ2)
theorem es_while {n : Nat} {q : Expr} {body : List Stmt} {t : STe} {b : SS} {st : Stmt} (h : ∀ {tc : TT} {tb : TS}, PT X q tc → PSs X body tb → PS X st (tWhile tc tb)) (ht : ET c X q t) (hb : ESs c X body b) : ES c X st (loopW t b n) := by
  refine ⟨ps_imp (h ht.pt hb.pss) fun D σ H ⟨F, ρ, fl, ρ', R, e, k⟩ => ?_⟩
  refine ⟨fun m σ H => ∃ F2 ρ2, Same F F2 ∧ Rl c F2 H σ ρ2 ∧ loopW t b m ρ2 = some (fl, ρ'), ⟨n, F, ρ, Same.refl _, R, e⟩, ?_⟩
  rintro m σ2 H2 ⟨F2, ρ2, s2, R2, e2⟩
  cases m with
  | zero => cases e2
  | succ m =>
    simp only [loopW] at e2
    cases e3 : t ρ2 with
    | none => simp [e3] at e2
    | some p =>
      obtain ⟨bb, ρ3⟩ := p
      refine ⟨F2, ρ2, bb, ρ3, R2, e3, fun H3 F3 s3 R3 => ?_⟩
      cases bb with
      | false =>
        simp only [e3, Option.some.injEq, Prod.mk.injEq] at e2
        obtain ⟨rfl, rfl⟩ := e2
        exact k σ2 H3 F3 (s2.trans s3) R3
      | true =>
        simp only [e3] at e2
        cases e4 : b ρ3 with
        | none => simp [e4] at e2
        | some q =>
          obtain ⟨f4, ρ4⟩ := q
          simp only [e4] at e2
          refine ⟨fun σ' H' => ∃ F5 ρ5, Same F F5 ∧ Rl c F5 H' σ' ρ5 ∧ loopW t b m ρ5 = some (fl, ρ'), fun σ' H' hN => ⟨m, Nat.lt_succ_self m, hN⟩, F3, ρ3, f4, ρ4, R3, e4, fun σ6 H6 F6 s6 R6 => ?_⟩
          have s16 : Same F F6 := s2.trans (s3.trans s6)
          cases f4 with
          | nx => exact ⟨F6, ρ4, s16, R6, e2⟩
          | ct => exact ⟨F6, ρ4, s16, R6, e2⟩
          | bk =>
            simp only [Option.some.injEq, Prod.mk.injEq] at e2
            obtain ⟨rfl, rfl⟩ := e2
            exact k σ6 H6 F6 s16 R6
          | rt d =>
            simp only [Option.some.injEq, Prod.mk.injEq] at e2
            obtain ⟨rfl, rfl⟩ := e2
            exact k σ6 H6 F6 s16 R6
/-! ### what is walked -/
def sSq (f : SE) : SI := fun ρ => match f ρ with
  | some (.d (.list ds), ρ1) => some (ds, ρ1)
  | some (.d (.tuple ds), ρ1) => some (ds, ρ1)
  | _ => none
theorem wk_list {F : Hp} {a : Addr} {vs : List V} {ds : List PyData} (hK : X.K = c.K) (h : SqL c.K F a vs) (hs : DpAll c.K F vs ds) : Wk c (Itl X.K a) F ds := by
  rw [hK]
  refine ⟨fun i d F2 H2 e s1 s2 => ?_, fun F2 H2 s1 s2 => ⟨vs, s2.seq (s1.seq h), by rw [dpAll_len hs]; exact Nat.le_refl _⟩⟩
  obtain ⟨v, ev, dv⟩ := dpAll_at hs e
  refine ⟨⟨vs, v, s2.seq (s1.seq h), ev⟩, fun x H3 ⟨e1, e2⟩ => ?_⟩
  subst e1
  have := e2 vs (s2.seq (s1.seq h))
  rw [ev] at this
  cases this
  exact ⟨F2, Xt.refl s2, dp_same s1 dv⟩
theorem wk_tup {F : Hp} {a : Addr} {vs : List V} {ds : List PyData} (hK : X.K = c.K) (h : SqT c.K F a vs) (hs : DpAll c.K F vs ds) : Wk c (Itt X.K a) F ds := by
  rw [hK]
  refine ⟨fun i d F2 H2 e s1 s2 => ?_, fun F2 H2 s1 s2 => ⟨vs, sqT_same s2 (sqT_same s1 h), by rw [dpAll_len hs]; exact Nat.le_refl _⟩⟩
  obtain ⟨v, ev, dv⟩ := dpAll_at hs e
  refine ⟨⟨vs, v, sqT_same s2 (sqT_same s1 h), ev⟩, fun x H3 ⟨e1, e2⟩ => ?_⟩
  subst e1
  have := e2 vs (sqT_same s2 (sqT_same s1 h))
  rw [ev] at this
  cases this
  exact ⟨F2, Xt.refl s2, dp_same s1 dv⟩
theorem ei_sq {f : SE} (hK : X.K = c.K) (he : EO c X e f) : EI c X tg e (sSq f) := by
  refine ⟨⟨fun pins s σ H R I ⟨F, ρ, items, ρ', RR, e1, k⟩ => ?_⟩⟩
  unfold sSq at e1
  cases e2 : f ρ with
  | none => simp [e2] at e1
  | some p =>
    obtain ⟨x, ρ1⟩ := p
    cases x with
    | s i => simp [e2] at e1
    | d d =>
      cases d with
      | list ds =>
        simp only [e2, Option.some.injEq, Prod.mk.injEq] at e1
        obtain ⟨rfl, rfl⟩ := e1
        refine (pi_list (tg := tg) he.pe).run pins s σ H R I ⟨F, ρ, _, ρ1, RR, e2, fun v H' F' s' R' o => ?_⟩
        cases o with
        | lst h hs => exact ⟨_, rfl, ⟨_, by rw [hK]; exact R'.sub.seq h⟩, k _ H' F' s' R' (wk_list hK h hs)⟩
      | tuple ds =>
        simp only [e2, Option.some.injEq, Prod.mk.injEq] at e1
        obtain ⟨rfl, rfl⟩ := e1
        refine (pi_tup (tg := tg) he.pe).run pins s σ H R I ⟨F, ρ, _, ρ1, RR, e2, fun v H' F' s' R' o => ?_⟩
        cases o with
        | tup h hs => exact ⟨_, rfl, ⟨_, by rw [hK]; exact sqT_same R'.sub h⟩, k _ H' F' s' R' (wk_tup hK h hs)⟩
      | _ => simp [e2] at e1
/-- range(a), range(a, b) -/
def rangeD (a b : Int) : List PyData := (List.range (b - a).toNat).map fun i => .int (a + (i : Nat))
def sRg1 (f : SA) : SI := fun ρ => match f ρ with
  | some ([.d (.int n)], ρ1) => if n.natAbs < 4611686018427387904 then some (rangeD 0 n, ρ1) else none
  | _ => none
def sRg2 (f : SA) : SI := fun ρ => match f ρ with
  | some ([.d (.int a), .d (.int b)], ρ1) => if a.natAbs < 4611686018427387904 ∧ b.natAbs < 4611686018427387904 then some (rangeD a b, ρ1) else none
  | _ => none
theorem wk_range {F : Hp} {a b : Int} : Wk c (Itr a (b - a).toNat) F (rangeD a b) := by
  refine ⟨fun i d F2 H2 e s1 s2 => ?_, fun F2 H2 s1 s2 => ?_⟩
  · unfold rangeD at e
    rw [List.getElem?_map] at e
    obtain ⟨j, e1, e2⟩ := Option.map_eq_some_iff.mp e
    obtain ⟨hj, e3⟩ := List.getElem?_eq_some_iff.mp e1
    rw [List.getElem_range] at e3
    rw [List.length_range] at hj
    subst e3
    refine ⟨hj, fun x H3 ⟨e4, e5⟩ => ?_⟩
    subst e4
    subst e5
    rw [← e2]
    exact ⟨F2, Xt.refl s2, .int _⟩
  · show (b - a).toNat ≤ (rangeD a b).length
    unfold rangeD
    rw [List.length_map, List.length_range]
    exact Nat.le_refl _
end
end PD

/-! Plain data: defs and their calls -/
namespace PD
open PySem PySem.Spec PyProof.Rows L2 GxR

def allD : List Ob → Option (List PyData)
  | [] => some []
  | .d d :: r => (allD r).map (d :: ·)
  | .s _ :: _ => none
theorem allD_ok {c : Co} {F : Hp} {σ : L2.St} : ∀ {vs : List V} {xs : List Ob} {ds : List PyData}, ObsOk c F σ vs xs → allD xs = some ds → DpAll c.K F vs ds
  | [], [], _, _, e => by cases e; exact .nil
  | v :: vs, .d d :: xs, ds, h, e => by
    simp only [allD, Option.map_eq_some_iff] at e
    obtain ⟨r, e1, rfl⟩ := e
    exact .cons h.1 (allD_ok h.2 e1)
  | _ :: _, .s _ :: _, _, _, e => by cases e
  | [], _ :: _, _, h, _ => h.elim
  | _ :: _, [], _, h, _ => h.elim

/-- the promise of a def on data -/
def spP (K : PySem.W.Frag) (T : List Addr) (f : List PyData → Option PyData) : Sp := fun vs H Q _ => ∃ F ds d, DpAll K F vs ds ∧ Same F H ∧ (∀ P ∈ T, F P = none ∧ TabG H P) ∧ TF K F ∧ f ds = some d ∧
  ∀ v H' F', Same F F' → Same F' H' → (∀ P ∈ T, F' P = none ∧ TabG H' P) → (∀ b o, H b = some o → b ∉ T → H' b = some o) → (∀ a, H a ≠ none → F a = none → F' a = none) → TF K F' → Dp K F' v d → Q v H'
/-- .. of a def that changes the list that is its first argument -/
def spI (K : PySem.W.Frag) (T : List Addr) (f : List PyData → List PyData → Option (PyData × List PyData)) : Sp := fun vs H Q _ => ∃ F r ws rs us ds d rs', vs = .ref r :: us ∧ H r = some (.lst ws) ∧ DpAll K F ws rs ∧ DpAll K F us ds ∧ Same F H ∧ F r = none ∧ r ∉ T ∧
  (∀ P ∈ T, F P = none ∧ TabG H P) ∧ TF K F ∧ f rs ds = some (d, rs') ∧
  ∀ v H' F' ws', Same F F' → Same F' H' → (∀ P ∈ T, F' P = none ∧ TabG H' P) → (∀ b o, H b = some o → b ∉ T → b ≠ r → H' b = some o) → H' r = some (.lst ws') → DpAll K F' ws' rs' → F' r = none → (∀ a, H a ≠ none → F a = none → F' a = none) → TF K F' → Dp K F' v d → Q v H'

def startE (n : Nat) (ds : List PyData) : Ev := ds.map Sl.dat ++ List.replicate (n - ds.length) Sl.un
def bodyP (g : SS) (n : Nat) (ds : List PyData) : Option PyData := match g (startE n ds) with
  | some (.rt d, _) => some d
  | some (.nx, _) => some .none
  | _ => none
def startI (n : Nat) (rs ds : List PyData) : Ev := Sl.io rs :: (ds.map Sl.dat ++ List.replicate (n - 1 - ds.length) Sl.un)
def bodyI (g : SS) (n : Nat) (rs ds : List PyData) : Option (PyData × List PyData) := match g (startI n rs ds) with
  | some (.rt d, ρ) => match (ρ[0]? : Option Sl) with
    | some (Sl.io rs') => some (d, rs')
    | _ => none
  | some (.nx, ρ) => match (ρ[0]? : Option Sl) with
    | some (Sl.io rs') => some (.none, rs')
    | _ => none
  | _ => none

section
variable {K : PySem.W.Frag} {T : List Addr} {F H : Hp}
theorem vAt_start {N : List Str} {vs : List V} {i : Nat} (h : i < vs.length) : vAt (L2.start N vs) i = some vs[i] := by
  unfold vAt L2.start
  rw [List.getElem?_append_left (by rw [List.length_map]; exact h), List.getElem?_map, List.getElem?_eq_getElem h]
  rfl
theorem startE_cases {n : Nat} {ds : List PyData} {i : Nat} {sl : Sl} (h : (startE n ds)[i]? = some sl) : (∃ d, ds[i]? = some d ∧ sl = .dat d) ∨ sl = .un := by
  unfold startE at h
  by_cases hi : i < ds.length
  · rw [List.getElem?_append_left (by rw [List.length_map]; exact hi), List.getElem?_map, List.getElem?_eq_getElem hi] at h
    cases h
    exact .inl ⟨_, List.getElem?_eq_getElem hi, rfl⟩
  · rw [List.getElem?_append_right (by rw [List.length_map]; omega)] at h
    obtain ⟨_, e⟩ := List.getElem?_eq_some_iff.mp h
    rw [List.getElem_replicate] at e
    exact .inr e.symm
theorem rl_start {N : List Str} {vs : List V} {ds : List PyData} (hd : DpAll K F vs ds) (hn : ds.length ≤ N.length) (s : Same F H) (t : ∀ P ∈ T, F P = none ∧ TabG H P) (tf : TF K F) :
    Rl ⟨K, T, H, F, []⟩ F H (L2.start N vs) (startE N.length ds) := by
  have hl := dpAll_len hd
  refine ⟨?_, s, fun P hP => (t P hP).1, fun P hP => (t P hP).2, Same.refl _, fun b o e _ _ => e, fun a ha => (by cases ha), fun i sl e => ?_, fun i j a x y e1 => ?_, fun i j x y e1 => ?_, fun a _ h => h, tf⟩
  · unfold L2.start startE
    rw [List.length_append, List.length_append, List.length_map, List.length_map, List.length_replicate, List.length_replicate, hl]
  · rcases startE_cases e with ⟨d, e1, rfl⟩ | rfl
    · obtain ⟨v, e2, dv⟩ := dpAll_at hd e1
      obtain ⟨hi, e3⟩ := List.getElem?_eq_some_iff.mp e2
      exact ⟨v, by rw [vAt_start hi, e3], dv⟩
    · trivial
  · rcases startE_cases e1 with ⟨d, _, h⟩ | h <;> cases h
  · rcases startE_cases e1 with ⟨d, _, h⟩ | h <;> cases h

/-- a def on data, by its body -/
theorem fn_pure {P : Program} {w : World} {mg : Str → Option Value} {base : Heap} {x qual : Str} {st : Stmt} {f : Addr} {fd : FuncData} {N ps : List Str} {k : Nat} (Fu : Fun K x qual st f fd) (S : FnScope N ps (defScope st)) (g : SS) (hnp : ps.length ≤ N.length)
    (hb : ∀ (cdv : Value) (A : Around) (outer : List Env) (s : Shared) (H : Hp) (E : XK) (H0 F0 : Hp) (io : List Addr), Room k (A.deeper (envOfC qual (defScope st) s.heap.objs.size f cdv)) →
      ESs ⟨K, T, H0, F0, io⟩ (cxOf CX0 P w K mg base N qual (defScope st) f cdv A outer s H E).nox (defBody st) g) :
    FnOk P w K mg base CX0 (k + 1) f fd ps (spP K T (fun ds => if ds.length = ps.length then bodyP g N.length ds else none)) := by
  refine Fu.ok S (fun vs H Q E h => ?_) (fun cdv A outer s H vs Q E hr h => ?_)
  · obtain ⟨F, ds, d, hd, _, _, _, e, _⟩ := h
    dsimp only at e
    split at e
    · rename_i hl
      rw [dpAll_len hd, hl]
    · cases e
  · obtain ⟨F, ds, d, hd, sF, t, tf, e, q⟩ := h
    dsimp only at e
    split at e
    · rename_i hl
      have es := hb cdv A outer s H E H F [] hr
      refine ⟨_, es.pss, ?_⟩
      have R := rl_start (N := N) hd (by rw [hl]; exact hnp) sF t tf
      unfold bodyP at e
      cases e1 : g (startE N.length ds) with
      | none => rw [e1] at e; cases e
      | some p =>
        obtain ⟨fl, ρ'⟩ := p
        rw [e1] at e
        refine ⟨F, _, fl, ρ', R, e1, fun σ' H' F' s' R' => ?_⟩
        have fin : ∀ v, Dp K F' v d → Q v H' := fun v dv => q v H' F' s' R'.sub (fun P hP => ⟨R'.ft P hP, R'.tb P hP⟩) (fun b o e1 e2 => R'.fr b o e1 e2 (by simp)) R'.nw R'.tf dv
        cases fl with
        | rt d' =>
          cases e
          exact fun v dv => fin v dv
        | nx =>
          cases e
          exact fin .non .non
        | bk => cases e
        | ct => cases e
    · cases e
/-- .. that holds a generator expression: its code object at cA -/
theorem fn_pureC {P : Program} {w : World} {mg : Str → Option Value} {base : Heap} {x qual : Str} {st : Stmt} {f : Addr} {N ps : List Str} {k : Nat} {oc : Value} {od an : Option Addr} {osl : Array (Option Value)} {dV kV doc pm cA ct : Value}
    (l : K.lookup f = some ⟨oc, od, .func (PySem.W.fnOf x qual (defArgs st) (defBody st) (defScope st) dV kV doc pm an cA ct), osl⟩) (cd : PySem.W.codeIn K cA qual = true) (S : FnScope N ps (defScope st)) (g : SS) (hnp : ps.length ≤ N.length)
    (hb : ∀ (A : Around) (outer : List Env) (s : Shared) (H : Hp) (E : XK) (H0 F0 : Hp) (io : List Addr), Room k (A.deeper (envOfC qual (defScope st) s.heap.objs.size f cA)) →
      ESs ⟨K, T, H0, F0, io⟩ (cxOf CX0 P w K mg base N qual (defScope st) f cA A outer s H E).nox (defBody st) g) :
    FnOk P w K mg base CX0 (k + 1) f (PySem.W.fnOf x qual (defArgs st) (defBody st) (defScope st) dV kV doc pm an cA ct) ps (spP K T (fun ds => if ds.length = ps.length then bodyP g N.length ds else none)) := by
  refine fn_of l cd S (fun vs H Q E h => ?_) fun A outer s H vs Q E hr h => ?_
  · obtain ⟨F, ds, d, hd, _, _, _, e, _⟩ := h
    dsimp only at e
    split at e
    · rename_i hl
      rw [dpAll_len hd, hl]
    · cases e
  · obtain ⟨F, ds, d, hd, sF, t, tf, e, q⟩ := h
    dsimp only at e
    split at e
    · rename_i hl
      have es := hb A outer s H E H F [] hr
      refine ⟨_, es.pss.nox, ?_⟩
      have R := rl_start (N := N) hd (by rw [hl]; exact hnp) sF t tf
      unfold bodyP at e
      cases e1 : g (startE N.length ds) with
      | none => rw [e1] at e; cases e
      | some p =>
        obtain ⟨fl, ρ'⟩ := p
        rw [e1] at e
        refine ⟨F, _, fl, ρ', R, e1, fun σ' H' F' s' R' => ?_⟩
        have fin : ∀ v, Dp K F' v d → Q v H' := fun v dv => q v H' F' s' R'.sub (fun P hP => ⟨R'.ft P hP, R'.tb P hP⟩) (fun b o e1 e2 => R'.fr b o e1 e2 (by simp)) R'.nw R'.tf dv
        cases fl with
        | rt d' =>
          cases e
          exact fun v dv => fin v dv
        | nx =>
          cases e
          exact fin .non .non
        | bk => cases e
        | ct => cases e
    · cases e
theorem startI_cases {n : Nat} {rs ds : List PyData} {i : Nat} {sl : Sl} (h : (startI n rs ds)[i]? = some sl) : (i = 0 ∧ sl = .io rs) ∨ (∃ j d, i = j + 1 ∧ ds[j]? = some d ∧ sl = .dat d) ∨ sl = .un := by
  unfold startI at h
  cases i with
  | zero =>
    cases h
    exact .inl ⟨rfl, rfl⟩
  | succ j =>
    rw [List.getElem?_cons_succ] at h
    refine .inr ?_
    by_cases hi : j < ds.length
    · rw [List.getElem?_append_left (by rw [List.length_map]; exact hi), List.getElem?_map, List.getElem?_eq_getElem hi] at h
      cases h
      exact .inl ⟨j, _, rfl, List.getElem?_eq_getElem hi, rfl⟩
    · rw [List.getElem?_append_right (by rw [List.length_map]; omega)] at h
      obtain ⟨_, e⟩ := List.getElem?_eq_some_iff.mp h
      rw [List.getElem_replicate] at e
      exact .inr e.symm
theorem rl_startI {N : List Str} {r : Addr} {ws us : List V} {rs ds : List PyData} (hr : H r = some (.lst ws)) (hw : DpAll K F ws rs) (hd : DpAll K F us ds) (hn : ds.length + 1 ≤ N.length) (s : Same F H) (fr : F r = none) (nr : r ∉ T) (t : ∀ P ∈ T, F P = none ∧ TabG H P) (tf : TF K F) :
    Rl ⟨K, T, H, F, [r]⟩ F H (L2.start N (.ref r :: us)) (startI N.length rs ds) := by
  have hl := dpAll_len hd
  refine ⟨?_, s, fun P hP => (t P hP).1, fun P hP => (t P hP).2, Same.refl _, fun b o e _ _ => e, fun a ha => ?_, fun i sl e => ?_, fun i j a x y e1 => ?_, fun i j x y e1 e2 => ?_, fun a _ h => h, tf⟩
  · unfold L2.start startI
    simp only [List.length_append, List.length_map, List.length_replicate, List.length_cons]
    omega
  · have e : a = r := by simpa using ha
    subst e
    exact ⟨(by show H a ≠ none; rw [hr]; exact fun z => (by cases z)), nr, fr, ws, hr⟩
  · rcases startI_cases e with ⟨rfl, rfl⟩ | ⟨j, d, rfl, e1, rfl⟩ | rfl
    · exact ⟨r, ws, rfl, by rw [vAt_start (by simp)]; rfl, hr, hw, fr, nr⟩
    · obtain ⟨v, e2, dv⟩ := dpAll_at hd e1
      obtain ⟨hi, e3⟩ := List.getElem?_eq_some_iff.mp e2
      refine ⟨v, ?_, dv⟩
      rw [vAt_start (by simp; exact hi)]
      simp [e3]
    · trivial
  · rcases startI_cases e1 with ⟨_, h⟩ | ⟨_, d, _, _, h⟩ | h <;> cases h
  · rcases startI_cases e1 with ⟨h1, _⟩ | ⟨_, d, _, _, h⟩ | h
    · rcases startI_cases e2 with ⟨h2, _⟩ | ⟨_, d, _, _, h⟩ | h
      · rw [h1, h2]
      · cases h
      · cases h
    · cases h
    · cases h
theorem fn_io {P : Program} {w : World} {mg : Str → Option Value} {base : Heap} {x qual : Str} {st : Stmt} {f : Addr} {fd : FuncData} {N ps : List Str} {k : Nat} (Fu : Fun K x qual st f fd) (S : FnScope N ps (defScope st)) (g : SS) (hnp : ps.length ≤ N.length)
    (hb : ∀ (cdv : Value) (A : Around) (outer : List Env) (s : Shared) (H : Hp) (E : XK) (H0 F0 : Hp) (io : List Addr), Room k (A.deeper (envOfC qual (defScope st) s.heap.objs.size f cdv)) →
      ESs ⟨K, T, H0, F0, io⟩ (cxOf CX0 P w K mg base N qual (defScope st) f cdv A outer s H E).nox (defBody st) g) :
    FnOk P w K mg base CX0 (k + 1) f fd ps (spI K T (fun rs ds => if ds.length + 1 = ps.length then bodyI g N.length rs ds else none)) := by
  refine Fu.ok S (fun vs H Q E h => ?_) (fun cdv A outer s H vs Q E hr h => ?_)
  · obtain ⟨F, r, ws, rs, us, ds, d, rs', rfl, _, _, hd, _, _, _, _, _, e, _⟩ := h
    dsimp only at e
    split at e
    · rename_i hl
      rw [List.length_cons, dpAll_len hd, hl]
    · cases e
  · obtain ⟨F, r, ws, rs, us, ds, d, rs', rfl, hH, hw, hd, sF, fF, nT, t, tf, e, q⟩ := h
    dsimp only at e
    split at e
    · rename_i hl
      have es := hb cdv A outer s H E H F [r] hr
      refine ⟨_, es.pss, ?_⟩
      have R := rl_startI (N := N) hH hw hd (by rw [hl]; exact hnp) sF fF nT t tf
      unfold bodyI at e
      cases e1 : g (startI N.length rs ds) with
      | none => rw [e1] at e; cases e
      | some p =>
        obtain ⟨fl, ρ'⟩ := p
        rw [e1] at e
        refine ⟨F, _, fl, ρ', R, e1, fun σ' H' F' s' R' => ?_⟩
        have fin : ∀ v, ρ'[0]? = some (Sl.io rs') → Dp K F' v d → Q v H' := fun v e0 dv => by
          obtain ⟨a, vs, ea, e3, e4, e5, e6, e7⟩ := R'.sl 0 _ e0
          have ea : [r] = [a] := ea
          cases ea
          exact q v H' F' vs s' R'.sub (fun P hP => ⟨R'.ft P hP, R'.tb P hP⟩) (fun b o x1 x2 x3 => R'.fr b o x1 x2 (by simpa using x3)) e4 e5 e6 R'.nw R'.tf dv
        cases fl with
        | rt d' =>
          dsimp only at e
          cases e0 : ρ'[0]? with
          | none => rw [e0] at e; cases e
          | some sl =>
            rw [e0] at e
            cases sl with
            | io rs2 =>
              cases e
              exact fun v dv => fin v e0 dv
            | _ => cases e
        | nx =>
          dsimp only at e
          cases e0 : ρ'[0]? with
          | none => rw [e0] at e; cases e
          | some sl =>
            rw [e0] at e
            cases sl with
            | io rs2 =>
              cases e
              exact fin .non e0 .non
            | _ => cases e
        | bk => cases e
        | ct => cases e
    · cases e
end

section
variable {c : Co} {X : Cx} {e : Expr} {es : List Expr} {pos : Pos}
def sCall (f : List PyData → Option PyData) (dds : List PyData) (fa : SA) : SE := fun ρ => match fa ρ with
  | none => none
  | some (xs, ρ1) => match allD xs with
    | none => none
    | some ds => (f (ds ++ dds)).map fun d => (.d d, ρ1)
theorem eo_call {f : List PyData → Option PyData} {dds : List PyData} {dvs : List V} {fa : SA} {ce : Expr} {E : XK} (h : ∀ {t : TA}, PA X es t → PE X ce (tCall (spP c.K c.T f) dvs E t)) (ha : EA c X es fa) (hd : ∀ F, DpAll c.K F dvs dds) : EO c X ce (sCall f dds fa) := by
  refine ⟨pe_imp (h ha.pa) fun σ H Q ⟨F, ρ, x, ρ', R, e, k⟩ => ?_⟩
  unfold sCall at e
  cases e1 : fa ρ with
  | none => rw [e1] at e; cases e
  | some p =>
    obtain ⟨xs, ρ1⟩ := p
    rw [e1] at e
    dsimp only at e
    cases e2 : allD xs with
    | none => rw [e2] at e; cases e
    | some ds =>
      rw [e2] at e
      dsimp only at e
      cases e3 : f (ds ++ dds) with
      | none => rw [e3] at e; cases e
      | some d =>
        rw [e3] at e
        cases e
        refine ⟨F, ρ, xs, _, R, e1, fun vs H1 F1 s1 R1 o1 => ?_⟩
        exact ⟨F1, ds ++ dds, d, dpAll_app (allD_ok o1 e2) (hd F1), R1.sub, fun P hP => ⟨R1.ft P hP, R1.tb P hP⟩, R1.tf, e3, fun v H' F' f1 s2 t h1 n tf dv => k v H' F' (s1.trans f1) (R1.call f1 s2 t h1 n tf) dv⟩
def cont? (ρ : Ev) (i : Nat) : Option (List PyData) := match ρ[i]? with
  | some (.own ds) => some ds
  | some (.io ds) => some ds
  | _ => none
def setCont (ρ : Ev) (i : Nat) (ds : List PyData) : Ev := match ρ[i]? with
  | some (.own _) => ρ.set i (.own ds)
  | some (.io _) => ρ.set i (.io ds)
  | _ => ρ
/-- the list of a slot is changed; the rest as at a call -/
theorem Rl.callI {F F' H H' : Hp} {σ : L2.St} {ρ : Ev} {i : Nat} {r : Addr} {ws : List V} {rs rs' : List PyData} (R : Rl c F H σ ρ) (hc : cont? ρ i = some rs) (hv : vAt σ i = some (.ref r)) (f : Same F F') (s : Same F' H') (t : ∀ P ∈ c.T, F' P = none ∧ TabG H' P)
    (h : ∀ b o, H b = some o → b ∉ c.T → b ≠ r → H' b = some o) (h' : H' r = some (.lst ws)) (hw : DpAll c.K F' ws rs') (hF : F' r = none) (n : ∀ a, H a ≠ none → F a = none → F' a = none) (tf : TF c.K F') : Rl c F' H' σ (setCont ρ i rs') := by
  have hi : i < ρ.length := by
    unfold cont? at hc
    cases e : ρ[i]? with
    | none => rw [e] at hc; cases hc
    | some sl => exact (List.getElem?_eq_some_iff.mp e).1
  -- who r is
  have who : (∃ ds, ρ[i]? = some (Sl.own ds) ∧ c.H0 r = none ∧ r ∉ c.T ∧ setCont ρ i rs' = ρ.set i (.own rs')) ∨ (∃ ds, ρ[i]? = some (Sl.io ds) ∧ c.io = [r] ∧ r ∉ c.T ∧ setCont ρ i rs' = ρ.set i (.io rs')) := by
    unfold cont? at hc
    unfold setCont
    cases e : ρ[i]? with
    | none => rw [e] at hc; cases hc
    | some sl =>
      have ok := R.sl i sl e
      cases sl with
      | un => rw [e] at hc; cases hc
      | dat d => rw [e] at hc; cases hc
      | own ds =>
        obtain ⟨a, vs, e1, e2, e3, e4, e5, e6⟩ := ok
        rw [hv] at e1
        cases e1
        exact .inl ⟨ds, rfl, e6, e5, rfl⟩
      | io ds =>
        obtain ⟨a, vs, e0, e1, e2, e3, e4, e5⟩ := ok
        rw [hv] at e1
        cases e1
        exact .inr ⟨ds, rfl, e0, e5, rfl⟩
  have nioOf : ∀ b, c.H0 b ≠ none → b ∉ c.io → b ≠ r := fun b h0 hb z => by
    rcases who with ⟨ds, _, e, _⟩ | ⟨ds, _, e, _⟩
    · exact h0 (by rw [z]; exact e)
    · exact hb (by rw [e, z]; simp)
  have other : ∀ j sl, i ≠ j → ρ[j]? = some sl → SlOk c F' H' (vAt σ j) sl := fun j sl hj e => by
    have ok := R.sl j sl e
    cases sl with
    | un => trivial
    | dat d =>
      obtain ⟨w, e1, e2⟩ := ok
      exact ⟨w, e1, dp_same f e2⟩
    | own ds =>
      obtain ⟨a, vs, e1, e2, e3, e4, e5, e6⟩ := ok
      have na : a ≠ r := fun z => by
        subst z
        rcases who with ⟨es, q, _⟩ | ⟨es, q, q2, _⟩
        · exact hj (R.dj i j a es ds q e hv e1)
        · exact (R.ioh a (by rw [q2]; simp)).1 e6
      exact ⟨a, vs, e1, h _ _ e2 e5 na, dpAll_same f e3, n a (by rw [e2]; exact fun z => by cases z) e4, e5, e6⟩
    | io ds =>
      obtain ⟨a, vs, e0, e1, e2, e3, e4, e5⟩ := ok
      have na : a ≠ r := fun z => by
        subst z
        rcases who with ⟨es, q, q2, _⟩ | ⟨es, q, q2, _⟩
        · exact (R.ioh a (by rw [e0]; simp)).1 q2
        · exact hj (R.iu i j es ds q e)
      exact ⟨a, vs, e0, e1, h _ _ e2 e5 na, dpAll_same f e3, n a (by rw [e2]; exact fun z => by cases z) e4, e5⟩
  have slots : ∀ j sl, (setCont ρ i rs')[j]? = some sl → SlOk c F' H' (vAt σ j) sl := fun j sl e => by
    by_cases hj : i = j
    · subst hj
      rcases who with ⟨ds, q, q1, q2, q3⟩ | ⟨ds, q, q1, q2, q3⟩
      · rw [q3, List.getElem?_set_self hi] at e
        cases e
        exact ⟨r, ws, hv, h', hw, hF, q2, q1⟩
      · rw [q3, List.getElem?_set_self hi] at e
        cases e
        exact ⟨r, ws, q1, hv, h', hw, hF, q2⟩
    · refine other j sl hj ?_
      rcases who with ⟨ds, q, q1, q2, q3⟩ | ⟨ds, q, q1, q2, q3⟩
      · rw [q3, List.getElem?_set_ne hj] at e
        exact e
      · rw [q3, List.getElem?_set_ne hj] at e
        exact e
  have kinds : ∀ j : Nat, (∀ ds, (setCont ρ i rs')[j]? = some (Sl.own ds) → ∃ es, ρ[j]? = some (Sl.own es)) ∧ (∀ ds, (setCont ρ i rs')[j]? = some (Sl.io ds) → ∃ es, ρ[j]? = some (Sl.io es)) := fun j => by
    have step : ∀ sl : Sl, (setCont ρ i rs')[j]? = some sl → ρ[j]? = some sl ∨ (∃ ds, ρ[j]? = some (Sl.own ds) ∧ sl = Sl.own rs') ∨ (∃ ds, ρ[j]? = some (Sl.io ds) ∧ sl = Sl.io rs') := fun sl e => by
      rcases who with ⟨ds, q, q1, q2, q3⟩ | ⟨ds, q, q1, q2, q3⟩
      · rw [q3] at e
        by_cases hj : i = j
        · subst hj
          rw [List.getElem?_set_self hi] at e
          cases e
          exact .inr (.inl ⟨ds, q, rfl⟩)
        · rw [List.getElem?_set_ne hj] at e
          exact .inl e
      · rw [q3] at e
        by_cases hj : i = j
        · subst hj
          rw [List.getElem?_set_self hi] at e
          cases e
          exact .inr (.inr ⟨ds, q, rfl⟩)
        · rw [List.getElem?_set_ne hj] at e
          exact .inl e
    refine ⟨fun es e => ?_, fun es e => ?_⟩
    · rcases step _ e with h | ⟨ds, h, _⟩ | ⟨ds, h, h2⟩
      · exact ⟨_, h⟩
      · exact ⟨_, h⟩
      · cases h2
    · rcases step _ e with h | ⟨ds, h, h2⟩ | ⟨ds, h, _⟩
      · exact ⟨_, h⟩
      · cases h2
      · exact ⟨_, h⟩
  have len : (setCont ρ i rs').length = ρ.length := by
    rcases who with ⟨ds, q, q1, q2, q3⟩ | ⟨ds, q, q1, q2, q3⟩ <;> rw [q3, List.length_set]
  refine ⟨by rw [len]; exact R.len, s, fun P hP => (t P hP).1, fun P hP => (t P hP).2, R.mono.trans f, fun b o e h1 h2 => h _ _ (R.fr b o e h1 h2) h1 (nioOf b (by rw [e]; exact fun z => by cases z) h2), fun a ha => ?_, slots, fun j k a ds es e1 e2 e3 e4 => ?_, fun j k ds es e1 e2 => ?_, fun a h1 h2 => ?_, tf⟩
  · obtain ⟨h1, h2, h3, vs, h4⟩ := R.ioh a ha
    by_cases ha' : a = r
    · subst ha'
      exact ⟨h1, h2, hF, ws, h'⟩
    · exact ⟨h1, h2, n a (by rw [h4]; exact fun z => by cases z) h3, vs, h _ _ h4 h2 ha'⟩
  · obtain ⟨ds', q1⟩ := (kinds j).1 ds e1
    obtain ⟨es', q2⟩ := (kinds k).1 es e2
    exact R.dj j k a ds' es' q1 q2 e3 e4
  · obtain ⟨ds', q1⟩ := (kinds j).2 ds e1
    obtain ⟨es', q2⟩ := (kinds k).2 es e2
    exact R.iu j k ds' es' q1 q2
  · have old := R.nw a h1 h2
    by_cases hT : a ∈ c.T
    · exact (t a hT).1
    · by_cases hio : a ∈ c.io
      · obtain ⟨_, _, _, vs, h4⟩ := R.ioh a hio
        exact n a (by rw [h4]; exact fun z => by cases z) old
      · cases e : c.H0 a with
        | none => exact absurd e h1
        | some o => exact n a (by rw [R.fr a o e hT hio]; exact fun z => by cases z) old
def sCallI (f : List PyData → List PyData → Option (PyData × List PyData)) (fa : SA) : SE := fun ρ => match fa ρ with
  | some (.s i :: xs, ρ1) => match cont? ρ1 i, allD xs with
    | some rs, some ds => (f rs ds).map fun p => (.d p.1, setCont ρ1 i p.2)
    | _, _ => none
  | _ => none
theorem eo_callI {f : List PyData → List PyData → Option (PyData × List PyData)} {fa : SA} {ce : Expr} {E : XK} (h : ∀ {t : TA}, PA X es t → PE X ce (tCall (spI c.K c.T f) [] E t)) (ha : EA c X es fa) : EO c X ce (sCallI f fa) := by
  refine ⟨pe_imp (h ha.pa) fun σ H Q ⟨F, ρ, x, ρ', R, e, k⟩ => ?_⟩
  unfold sCallI at e
  cases e1 : fa ρ with
  | none => rw [e1] at e; cases e
  | some p =>
    obtain ⟨xs, ρ1⟩ := p
    rw [e1] at e
    cases xs with
    | nil => cases e
    | cons x0 xs =>
      cases x0 with
      | d d => cases e
      | s i =>
        dsimp only at e
        cases e2 : cont? ρ1 i with
        | none => rw [e2] at e; cases e
        | some rs =>
          cases e3 : allD xs with
          | none => rw [e2, e3] at e; cases e
          | some ds =>
            rw [e2, e3] at e
            dsimp only at e
            cases e4 : f rs ds with
            | none => rw [e4] at e; cases e
            | some p =>
              obtain ⟨d, rs'⟩ := p
              rw [e4] at e
              cases e
              refine ⟨F, ρ, _, ρ1, R, e1, fun vs H1 F1 s1 R1 o1 => ?_⟩
              cases vs with
              | nil => exact o1.elim
              | cons v vs =>
                obtain ⟨hv, ho⟩ := o1
                have hv : vAt σ i = some v := hv
                -- where the list stands
                have st : ∃ r ws, v = .ref r ∧ H1 r = some (.lst ws) ∧ DpAll c.K F1 ws rs ∧ F1 r = none ∧ r ∉ c.T := by
                  unfold cont? at e2
                  cases q : ρ1[i]? with
                  | none => rw [q] at e2; cases e2
                  | some sl =>
                    rw [q] at e2
                    have ok := R1.sl i sl q
                    cases sl with
                    | un => cases e2
                    | dat d => cases e2
                    | own es' =>
                      cases e2
                      obtain ⟨a, ws, z1, z2, z3, z4, z5, _⟩ := ok
                      rw [hv] at z1
                      cases z1
                      exact ⟨a, ws, rfl, z2, z3, z4, z5⟩
                    | io es' =>
                      cases e2
                      obtain ⟨a, ws, z0, z1, z2, z3, z4, z5⟩ := ok
                      rw [hv] at z1
                      cases z1
                      exact ⟨a, ws, rfl, z2, z3, z4, z5⟩
                obtain ⟨r, ws, rfl, z2, z3, z4, z5⟩ := st
                show spI c.K c.T f ((V.ref r :: vs) ++ []) H1 Q E
                rw [List.append_nil]
                exact ⟨F1, r, ws, rs, vs, ds, d, rs', rfl, z2, z3, allD_ok ho e3, R1.sub, z4, z5, fun P hP => ⟨R1.ft P hP, R1.tb P hP⟩, R1.tf, e4,
                  fun u H' F' ws' f1 s2 t h1 h2 h3 h4 n tf du => k u H' F' (s1.trans f1) (R1.callI e2 hv f1 s2 t h1 h2 h3 h4 n tf) du⟩
theorem es_ret {f : SE} (he : EO c X e f) : ES c X (.Return (some e) pos) (sRet f) := by
  refine ⟨ps_imp (ps_ret he.pe) fun D σ H ⟨F, ρ, fl, ρ', R, e, k⟩ => ?_⟩
  unfold sRet at e
  cases e1 : f ρ with
  | none => rw [e1] at e; cases e
  | some p =>
    obtain ⟨x, ρ1⟩ := p
    rw [e1] at e
    cases x with
    | s i => cases e
    | d d =>
      cases e
      exact ⟨F, ρ, _, _, R, e1, fun v H' F' s' R' o => k σ H' F' s' R' v o⟩
theorem es_retN : ES c X (.Return none pos) (fun ρ => some (.rt .none, ρ)) := by
  refine ⟨ps_imp ps_retN fun D σ H ⟨F, ρ, fl, ρ', R, e, k⟩ => ?_⟩
  cases e
  exact k σ H F (Same.refl _) R .non .non
end
end PD

/-! New tuples that are known to bear no dict -/
namespace PD
open PySem PySem.Spec PyProof.Rows L2 GxR
/-- the new tuple is held with its object -/
def NewT (Q : VK) (H : Hp) (vs : List V) : Prop := ∀ p ob, H p = none → PlT ob → Q (.ref p) (upd H p (.frz ob (.tup vs)))
section
variable {X : Cx} {pins : List (Addr × Obj)} {σ : L2.St} {H : Hp} {Q : VK}
theorem new_t {h' : Heap} {t' : Nat} {s s0 : Shared} {vs : List V} {us : List Value} {n : Nat} (I : Inv X pins σ H s) (hk : ∀ b o, s.heap.get? b = some o → h'.get? b = some o) (ha : s.heap.objs.size ≤ s0.heap.objs.size)
    (e : h'.get? s0.heap.objs.size = some { cls := .type "tuple", data := .seq us.toArray n }) (r : Vals vs us) (hz : vs.length ≤ sizeLine) (q : NewT Q H vs) :
    EP X pins σ Q (.ref s0.heap.objs.size) { s with heap := h', toks := t' } := by
  refine ⟨.ref s0.heap.objs.size, _, I.laid (t' := t') (o := .frz { cls := .type "tuple", data := .seq us.toArray n } (.tup vs)) hk ha ?_, rfl, q _ _ (I.hok.fresh ha) ⟨rfl, rfl⟩⟩
  exact ⟨e, hz, us, r, ⟨_, e, rfl, _, rfl⟩⟩
end
section
variable {X : Cx}
def tTupF (t : TA) : TE := fun σ H Q => t σ H fun vs H1 => vs.length ≤ sizeLine ∧ NewT Q H1 vs
theorem pe_tupF {es : List Expr} {t : TA} {x1 : Nat} {pos : Pos} (h : PA X es t) : PE X (.Tuple es x1 pos) (tTupF t) := by
  refine ⟨fun pins s σ H Q I hq => ?_⟩
  refine wpAny_Tuple_spliced (thn (h.run pos pins s σ H _ I hq) fun us s1 ⟨vs, H1, I1, r, z, q⟩ => ⟨by rw [← r.length]; exact z, ?_⟩)
  exact new_t (s0 := s1) (t' := s1.toks) I1 (fun b u e => Heap.get?_push_of_some _ e) (Nat.le_refl _) (Heap.get?_push_size _ rfl) r z q
/-- tuple(x) -/
def rTupF (K : PySem.W.Frag) (vs : List V) (H : Hp) (Q : VK) : Prop := ∃ p ys, vs = [.ref p] ∧ ((SqL K H p ys ∧ NewT Q H ys) ∨ (SqT K H p ys ∧ Q (.ref p) H))
theorem call_tupF : CallR X (.type "tuple") (rTupF X.K) := by
  intro pins s σ H vs us Q I r h
  obtain ⟨p, ys, rfl, h⟩ := h
  obtain ⟨u, rfl, ru⟩ := vals1 r
  cases ru
  rcases h with ⟨hs, q⟩ | ⟨hs, q⟩
  · obtain ⟨items, rv, pl, z⟩ := I.list hs
    have hl := rv.length
    refine call_tuple_list pl.isList (fun h' kp => ?_) (by simp only [List.size_toArray] <;> omega)
    have I1 : Inv X pins σ H { s with heap := h' } := I.kept (t' := s.toks) kp
    exact new_t (s := { s with heap := h' }) (s0 := { s with heap := h' }) (t' := s.toks) I1 (fun b u e => Heap.get?_push_of_some _ e) (Nat.le_refl _) (Heap.get?_push_size _ rfl) rv z q
  · obtain ⟨items, _, pt, _⟩ := I.tuple hs
    exact call_tuple_same pt ⟨.ref p, H, I, rfl, q⟩
theorem call_divF : CallR X (.builtin "divmod") (fun vs H Q => ∃ i j, vs = [.int i, .int j] ∧ CDiv i j ∧ NewT Q H [.int (i / j), .int (i % j)]) := by
  intro pins s σ H vs us Q I r h
  obtain ⟨i, j, rfl, ⟨h1, h2⟩, q⟩ := h
  obtain ⟨u, w', rfl, ⟨t1, rfl⟩, ⟨t2, rfl⟩⟩ := vals2 r
  refine divmod_int (by omega) ?_ (.inl (PyProof.noPylong_small (by omega)))
  rw [Int.fdiv_eq_ediv_of_nonneg i (by omega), Int.fmod_eq_emod_of_nonneg i (by omega)]
  exact new_t (s0 := s) (vs := [.int (i / j), .int (i % j)]) (us := [.int (i / j) s.toks, .int (i % j) (s.toks + 1)]) I (fun b o e => Heap.get?_push_of_some _ e) (Nat.le_refl _) (Heap.get?_push_size _ rfl) (.cons ⟨_, rfl⟩ (.cons ⟨_, rfl⟩ .nil)) (by simp only [List.length_cons, List.length_nil]; rw [sizeLine_eq]; decide) q
/-- t + u -/
def rCatF (K : PySem.W.Frag) : R2 := fun x y H Q => ∃ a b vs ws, x = .ref a ∧ y = .ref b ∧ SqT K H a vs ∧ SqT K H b ws ∧ vs.length + ws.length ≤ sizeLine ∧
  (vs = [] → Q (.ref b) H) ∧ (vs ≠ [] → ws = [] → Q (.ref a) H) ∧ (vs ≠ [] → ws ≠ [] → NewT Q H (vs ++ ws))
theorem op_catF : OpR X (binaryOp .Add) (rCatF X.K) := by
  intro pins s σ H x y v u Q I rx ry h
  obtain ⟨a, b, vs, ws, rfl, rfl, ha, hb, z, q0, q1, q2⟩ := h
  cases rx
  cases ry
  obtain ⟨us1, r1, p1, _⟩ := I.tuple ha
  obtain ⟨us2, r2, p2, _⟩ := I.tuple hb
  by_cases hv : vs = []
  · subst hv
    cases r1
    exact cat_tup0 p1 p2 ⟨.ref b, H, I, rfl, q0 rfl⟩
  · refine HT.cat_tup p1 p2 (fun e => hv (r1.nil_iff.mp e)) (fun e => ⟨.ref a, H, I, rfl, q1 hv (r2.nil_iff.mp e)⟩) (fun e => ?_) (by rw [← r1.length, ← r2.length]; exact z)
    exact new_t (s0 := s) (t' := s.toks) I (fun b o e => Heap.get?_push_of_some _ e) (Nat.le_refl _) (Heap.get?_push_size _ rfl) (r1.append r2) (by rw [List.length_append]; exact z) (q2 hv fun e2 => e (r2.nil_iff.mpr e2))
/-- t[lo:hi] -/
def rSlF (K : PySem.W.Frag) : V → Option Int → Option Int → Hp → VK → Prop := fun x lo hi H Q => ∃ a vs, x = .ref a ∧ SqT K H a vs ∧
  (HT.sIx vs.length 0 lo = 0 ∧ HT.sIx vs.length vs.length hi = vs.length → Q (.ref a) H) ∧ (¬ (HT.sIx vs.length 0 lo = 0 ∧ HT.sIx vs.length vs.length hi = vs.length) → NewT Q H (cutV vs lo hi))
theorem sl_tupF : SlR X (rSlF X.K) := by
  intro pins s σ H x v vl vu lo hi sl Q I rx hs pl pu h
  obtain ⟨a, vs, rfl, hx, q1, q2⟩ := h
  by_cases hw : HT.sIx vs.length 0 lo = 0 ∧ HT.sIx vs.length vs.length hi = vs.length
  · exact sl_tupA pins s σ H _ v vl vu lo hi sl Q I rx hs pl pu ⟨a, vs, rfl, hx, q1, fun z => absurd hw z⟩
  · cases rx
    obtain ⟨us, r, ht, z⟩ := I.tuple hx
    have hl : us.toArray.size = vs.length := by rw [List.size_toArray]; exact r.length.symm
    refine ⟨"tuple", _, PyProof.Rows.slot_tuple_getitem.lookup, ht.typeIs, ?_⟩
    refine HT.getItem_tuple_cut ht hs pl pu (by rw [hl]; exact hw) ?_ (by rw [hl]; exact z)
    rw [hl]
    exact new_t (s0 := s) (t' := s.toks) I (fun b o e => Heap.get?_push_of_some _ e) (Nat.le_refl _) (Heap.get?_push_size _ rfl) ((r.drop _).take _) (Nat.le_trans (cutV_length vs lo hi) z) (q2 hw)
def tTupRgF (te : L2.St → Hp → (Int → Int → Hp → Prop) → Prop) : TE := fun σ H Q => te σ H fun a b H1 => RgOk a b ∧ NewT Q H1 (rgV a b)
theorem pe_tupRgF {e : Expr} {te : L2.St → Hp → (Int → Int → Hp → Prop) → Prop} {p pos : Pos} (hc : X.calm = true) (hg : Gl X "tuple") (hm : X.mg "tuple" = none) (he : PRg X e te) (na : starEach [e] X.env = (false, eval e X.env) :: starEach [] X.env := by rfl) : PE X (.Call (.Name "tuple" p) [e] [] pos) (tTupRgF te) := by
  refine ⟨fun pins s σ H Q I h => ?_⟩
  refine Call_ (ld_blt I hg hm boot_tuple (PyProof.Rows.callWith_type1 (args_cons (thn (he pins s σ H _ I h) fun x s1 ⟨r, a, b, t, u, v, H1, ex, hr, I1, ok, q⟩ => args_nil ?_) na) na))
  subst ex
  obtain ⟨b1, b2, b3, b4, b5⟩ := ok
  refine call_tuple_range (n := (b - a).toNat) (I1.ok.hd hc) hr (small_one b1 b2 b3 b4) (rangeSize_nat a b) b5 fun h' tk acc hk hi => ?_
  have I2 : Inv X pins σ H1 { s1 with heap := h', toks := tk } := I1.kept hk
  refine new_t (s := { s1 with heap := h', toks := tk }) (s0 := { s1 with heap := h', toks := tk }) (t' := tk) (us := acc.toList) (n := 0) I2 (fun b o e => Heap.get?_push_of_some _ e) (Nat.le_refl _) ?_ (vals_rg hi) (by rw [rgV_length, sizeLine_eq]; omega) q
  rw [Array.toArray_toList]
  exact Heap.get?_push_size _ rfl
end
end PD

/-! Plain data: new lists, comprehensions, all(..) -/
namespace PD
open PySem PySem.Spec PyProof.Rows L2 GxR

/-! ### the slots of a block -/
def wipeE (ρ : Ev) : List Nat → Ev
  | [] => ρ
  | v :: vs => (wipeE ρ vs).set v .un
theorem wipeE_len (ρ : Ev) : ∀ vs : List Nat, (wipeE ρ vs).length = ρ.length
  | [] => rfl
  | v :: vs => by
    unfold wipeE
    rw [List.length_set, wipeE_len ρ vs]
theorem wipeE_out {ρ : Ev} {i : Nat} : ∀ {vs : List Nat}, i ∉ vs → (wipeE ρ vs)[i]? = ρ[i]?
  | [], _ => rfl
  | v :: vs, h => by
    have h1 : v ≠ i := fun z => h (by rw [z]; exact List.mem_cons_self ..)
    have h2 : i ∉ vs := fun z => h (List.mem_cons_of_mem _ z)
    unfold wipeE
    rw [List.getElem?_set_ne h1, wipeE_out h2]
theorem wipeE_in {ρ : Ev} {i : Nat} {sl : Sl} : ∀ {vs : List Nat}, i ∈ vs → (wipeE ρ vs)[i]? = some sl → sl = .un
  | v :: vs, h, e => by
    unfold wipeE at e
    by_cases hv : v = i
    · subst hv
      by_cases hl : v < (wipeE ρ vs).length
      · rw [List.getElem?_set_self hl] at e
        cases e
        rfl
      · rw [List.getElem?_eq_none (by simpa using hl)] at e
        cases e
    · rw [List.getElem?_set_ne hv] at e
      rcases List.mem_cons.mp h with z | z
      · exact absurd z.symm hv
      · exact wipeE_in z e
theorem vAt_wipe_out {σ : L2.St} {i : Nat} {vs : List Nat} (h : i ∉ vs) : vAt (wipe σ vs) i = vAt σ i := by
  unfold vAt
  rw [wipe_out h]
def plainSl : Sl → Bool
  | .un => true
  | .dat _ => true
  | _ => false
def okWipe (ρ : Ev) (vs : List Nat) : Bool := vs.all fun i => match (ρ[i]? : Option Sl) with
  | some sl => plainSl sl
  | none => true
def restore (ρe ρ : Ev) : List Nat → Ev
  | [] => ρe
  | v :: vs => match (ρ[v]? : Option Sl) with
    | some sl => (restore ρe ρ vs).set v sl
    | none => restore ρe ρ vs
theorem restore_len (ρe ρ : Ev) : ∀ vs : List Nat, (restore ρe ρ vs).length = ρe.length
  | [] => rfl
  | v :: vs => by
    unfold restore
    split
    · rw [List.length_set, restore_len ρe ρ vs]
    · exact restore_len ρe ρ vs
theorem restore_out {ρe ρ : Ev} {i : Nat} : ∀ {vs : List Nat}, i ∉ vs → (restore ρe ρ vs)[i]? = ρe[i]?
  | [], _ => rfl
  | v :: vs, h => by
    have h1 : v ≠ i := fun z => h (by rw [z]; exact List.mem_cons_self ..)
    have h2 : i ∉ vs := fun z => h (List.mem_cons_of_mem _ z)
    unfold restore
    split
    · rw [List.getElem?_set_ne h1, restore_out h2]
    · exact restore_out h2
theorem restore_in {ρe ρ : Ev} {i : Nat} (hl : ρe.length = ρ.length) : ∀ {vs : List Nat}, i ∈ vs → (restore ρe ρ vs)[i]? = ρ[i]?
  | v :: vs, h => by
    unfold restore
    by_cases hv : v = i
    · subst hv
      by_cases hi : v < ρ.length
      · rw [List.getElem?_eq_getElem hi]
        dsimp only
        rw [List.getElem?_set_self (by rw [restore_len, hl]; exact hi)]
      · have hn : ρ[v]? = none := List.getElem?_eq_none (by omega)
        rw [hn]
        dsimp only
        exact List.getElem?_eq_none (by rw [restore_len, hl]; omega)
    · have h2 : i ∈ vs := by
        rcases List.mem_cons.mp h with z | z
        · exact absurd z.symm hv
        · exact z
      split
      · rw [List.getElem?_set_ne hv, restore_in hl h2]
      · exact restore_in hl h2

theorem wipe_in {σ : L2.St} {i : Nat} : ∀ {vs : List Nat}, i ∈ vs → (wipe σ vs)[i]? = if i < σ.length then some none else none
  | v :: vs, h => by
    unfold wipe
    by_cases hv : v = i
    · subst hv
      by_cases hi : v < σ.length
      · rw [List.getElem?_set_self (by rw [wipe_length]; exact hi), if_pos hi]
      · rw [List.getElem?_eq_none (by rw [List.length_set, wipe_length]; omega), if_neg hi]
    · rw [List.getElem?_set_ne hv]
      rcases List.mem_cons.mp h with z | z
      · exact absurd z.symm hv
      · exact wipe_in z
theorem wipe_but {σ σ' : L2.St} {vs : List Nat} (h : ∀ j : Nat, j ∉ vs → σ'[j]? = σ[j]?) (hl : σ'.length = σ.length) : wipe σ' vs = wipe σ vs := by
  apply List.ext_getElem?
  intro j
  by_cases hj : j ∈ vs
  · rw [wipe_in hj, wipe_in hj, hl]
  · rw [wipe_out hj, wipe_out hj, h j hj]
section
variable {c : Co} {F F' H H' : Hp} {σ : L2.St} {ρ : Ev}
theorem Rl.wipe (R : Rl c F H σ ρ) (vs : List Nat) : Rl c F H (L2.wipe σ vs) (wipeE ρ vs) := by
  have old : ∀ (i : Nat) sl, (wipeE ρ vs)[i]? = some sl → sl = .un ∨ (i ∉ vs ∧ ρ[i]? = some sl) := fun i sl e => by
    by_cases h : i ∈ vs
    · exact .inl (wipeE_in h e)
    · rw [wipeE_out h] at e
      exact .inr ⟨h, e⟩
  refine R.slots (by rw [wipe_length, wipeE_len]; exact R.len) (fun i sl e => ?_) (fun i j a ds es e1 e2 e3 e4 => ?_) (fun i j ds es e1 e2 => ?_)
  · rcases old i sl e with rfl | ⟨h, e⟩
    · trivial
    · rw [vAt_wipe_out h]
      exact R.sl i sl e
  · rcases old i _ e1 with h | ⟨h1, e1⟩
    · cases h
    · rcases old j _ e2 with h | ⟨h2, e2⟩
      · cases h
      · rw [vAt_wipe_out h1] at e3
        rw [vAt_wipe_out h2] at e4
        exact R.dj i j a ds es e1 e2 e3 e4
  · rcases old i _ e1 with h | ⟨h1, e1⟩
    · cases h
    · rcases old j _ e2 with h | ⟨h2, e2⟩
      · cases h
      · exact R.iu i j ds es e1 e2
theorem Rl.restore {ρe : Ev} {vs : List Nat} {F0 H0 : Hp} (R0 : Rl c F0 H0 σ ρ) (s : Same F0 F) (ok : okWipe ρ vs = true) (R : Rl c F H (L2.wipe σ vs) ρe) : Rl c F H σ (PD.restore ρe ρ vs) := by
  have hl : ρe.length = ρ.length := by rw [← R.len, wipe_length, R0.len]
  have old : ∀ (i : Nat) sl, (PD.restore ρe ρ vs)[i]? = some sl → (i ∈ vs ∧ ρ[i]? = some sl ∧ plainSl sl = true) ∨ (i ∉ vs ∧ ρe[i]? = some sl) := fun i sl e => by
    by_cases h : i ∈ vs
    · rw [restore_in hl h] at e
      have q := List.all_eq_true.mp ok i h
      rw [e] at q
      exact .inl ⟨h, e, q⟩
    · rw [restore_out h] at e
      exact .inr ⟨h, e⟩
  refine R.slots (by rw [restore_len, ← R.len, wipe_length]) (fun i sl e => ?_) (fun i j a ds es e1 e2 e3 e4 => ?_) (fun i j ds es e1 e2 => ?_)
  · rcases old i sl e with ⟨h, e, p⟩ | ⟨h, e⟩
    · have q := R0.sl i sl e
      cases sl with
      | un => trivial
      | dat d =>
        obtain ⟨x, e1, e2⟩ := q
        exact ⟨x, e1, dp_same s e2⟩
      | own ds => cases p
      | io ds => cases p
    · have q := R.sl i sl e
      rw [vAt_wipe_out h] at q
      exact q
  · rcases old i _ e1 with ⟨_, _, p⟩ | ⟨h1, e1⟩
    · cases p
    · rcases old j _ e2 with ⟨_, _, p⟩ | ⟨h2, e2⟩
      · cases p
      · rw [← vAt_wipe_out h1] at e3
        rw [← vAt_wipe_out h2] at e4
        exact R.dj i j a ds es e1 e2 e3 e4
  · rcases old i _ e1 with ⟨_, _, p⟩ | ⟨h1, e1⟩
    · cases p
    · rcases old j _ e2 with ⟨_, _, p⟩ | ⟨h2, e2⟩
      · cases p
      · exact R.iu i j ds es e1 e2

/-! ### a list on the side, kept -/
abbrev Co.with (c : Co) (D : Addr) (o : HO) : Co := { c with H0 := upd c.H0 D o }
theorem Rl.guard {D : Addr} {ds : List PyData} {vs : List V} (R : Rl c F H σ ρ) (f : Fresh c F H σ ρ D ds) (hv : H D = some (.lst vs)) (f0 : c.F0 D = none) : Rl (c.with D (.lst vs)) F H σ ρ := by
  have nio : D ∉ c.io := fun z => (R.ioh D z).1 f.h0
  refine ⟨R.len, R.sub, R.ft, R.tb, R.mono, fun b o e h1 h2 => ?_, fun a ha => ?_, fun i sl e => ?_, R.dj, R.iu, fun a h1 h2 => ?_, R.tf⟩
  · by_cases hb : b = D
    · have e' : upd c.H0 D (.lst vs) b = some o := e
      rw [hb, upd_same] at e'
      rw [hb, hv]
      exact e'
    · have e' : upd c.H0 D (.lst vs) b = some o := e
      rw [upd_ne hb] at e'
      exact R.fr b o e' h1 h2
  · have na : a ≠ D := fun z => nio (by rw [← z]; exact ha)
    obtain ⟨h1, h2⟩ := R.ioh a ha
    refine ⟨?_, h2⟩
    show upd c.H0 D (.lst vs) a ≠ none
    rw [upd_ne na]
    exact h1
  · have q := R.sl i sl e
    cases sl with
    | un => trivial
    | dat d => exact q
    | own es =>
      obtain ⟨a, ws, e1, e2, e3, e4, e5, e6⟩ := q
      have na : a ≠ D := fun z => f.no i es e (by rw [e1, z])
      refine ⟨a, ws, e1, e2, e3, e4, e5, ?_⟩
      show upd c.H0 D (.lst vs) a = none
      rw [upd_ne na]
      exact e6
    | io es => exact q
  · by_cases ha : a = D
    · rw [ha]
      exact f.nf
    · refine R.nw a ?_ h2
      have h1' : upd c.H0 D (.lst vs) a ≠ none := h1
      rw [upd_ne ha] at h1'
      exact h1'
theorem Rl.unguard {D : Addr} {o : HO} (R : Rl (c.with D o) F H σ ρ) (h0 : c.H0 D = none) (nT : D ∉ c.T) (nio : D ∉ c.io) (f0 : c.F0 D = none) : Rl c F H σ ρ ∧ H D = some o ∧ F D = none ∧ ∀ i es, ρ[i]? = some (Sl.own es) → vAt σ i ≠ some (.ref D) := by
  refine ⟨⟨R.len, R.sub, R.ft, R.tb, R.mono, fun b x e h1 h2 => ?_, fun a ha => ?_, fun i sl e => ?_, R.dj, R.iu, fun a h1 h2 => ?_, R.tf⟩, R.fr D o upd_same nT nio, R.nw D (by show upd c.H0 D o D ≠ none; rw [upd_same]; exact fun z => by cases z) f0, fun i es e z => ?_⟩
  · refine R.fr b x ?_ h1 h2
    show upd c.H0 D o b = some x
    rw [upd_ne (ne_of_none e h0)]
    exact e
  · obtain ⟨h1, h2⟩ := R.ioh a ha
    have na : a ≠ D := fun z => nio (by rw [← z]; exact ha)
    have h1' : upd c.H0 D o a ≠ none := h1
    rw [upd_ne na] at h1'
    exact ⟨h1', h2⟩
  · have q := R.sl i sl e
    cases sl with
    | un => trivial
    | dat d => exact q
    | own es =>
      obtain ⟨a, ws, e1, e2, e3, e4, e5, e6⟩ := q
      refine ⟨a, ws, e1, e2, e3, e4, e5, ?_⟩
      have e6' : upd c.H0 D o a = none := e6
      by_cases na : a = D
      · rw [na, upd_same] at e6'
        cases e6'
      · rw [upd_ne na] at e6'
        exact e6'
    | io es => exact q
  · refine R.nw a ?_ h2
    show upd c.H0 D o a ≠ none
    by_cases na : a = D
    · rw [na, upd_same]
      exact fun z => by cases z
    · rw [upd_ne na]
      exact h1
  · obtain ⟨a, ws, e1, e2, e3, e4, e5, e6⟩ := R.sl i _ e
    rw [z] at e1
    cases e1
    have e6' : upd c.H0 D o D = none := e6
    rw [upd_same] at e6'
    cases e6'
/-- a list on the side changes -/
theorem Rl.side {D : Addr} {vs : List V} {o : HO} (R : Rl c F H σ ρ) (hD : H D = some (.lst vs)) (nf : F D = none) (nT : D ∉ c.T) (h0 : c.H0 D = none) (no : ∀ i es, ρ[i]? = some (Sl.own es) → vAt σ i ≠ some (.ref D)) : Rl c F (upd H D o) σ ρ := by
  have nio : ∀ a ∈ c.io, a ≠ D := fun a ha z => (R.ioh a ha).1 (by rw [z]; exact h0)
  refine ⟨R.len, fun b x e => ?_, R.ft, fun P hP => ?_, R.mono, fun b x e h1 h2 => ?_, fun a ha => ?_, fun i sl e => ?_, R.dj, R.iu, R.nw, R.tf⟩
  · rw [upd_ne (ne_of_none e nf)]
    exact R.sub _ _ e
  · obtain ⟨ps, e, t⟩ := R.tb P hP
    have nP : P ≠ D := fun z => nT (by rw [← z]; exact hP)
    exact ⟨ps, by rw [upd_ne nP]; exact e, t⟩
  · rw [upd_ne (ne_of_none e h0)]
    exact R.fr b x e h1 h2
  · obtain ⟨h1, h2, h3, ws, h4⟩ := R.ioh a ha
    exact ⟨h1, h2, h3, ws, by rw [upd_ne (nio a ha)]; exact h4⟩
  · have q := R.sl i sl e
    cases sl with
    | un => trivial
    | dat d => exact q
    | own es =>
      obtain ⟨a, ws, e1, e2, e3, e4, e5, e6⟩ := q
      have na : a ≠ D := fun z => no i es e (by rw [e1, z])
      exact ⟨a, ws, e1, by rw [upd_ne na]; exact e2, e3, e4, e5, e6⟩
    | io es =>
      obtain ⟨a, ws, e0, e1, e2, e3, e4, e5⟩ := q
      exact ⟨a, ws, e0, e1, by rw [upd_ne (nio a (by rw [e0]; simp))]; exact e2, e3, e4, e5⟩
end

/-! ### new lists -/
def rF (c : Co) (f : SI) : TE := fun σ H Q => ∃ F ρ ds ρ', Rl c F H σ ρ ∧ f ρ = some (ds, ρ') ∧ ∀ a H' F', Same F F' → Rl c F' H' σ ρ' → Fresh c F' H' σ ρ' a ds → Q (.ref a) H'
structure EF (c : Co) (X : Cx) (e : Expr) (f : SI) : Prop where
  pe : PE X e (rF c f)
def sFr (f : SI) : SE := fun ρ => match f ρ with
  | some (ds, ρ1) => some (.d (.list ds), ρ1)
  | none => none
section
variable {c : Co} {X : Cx} {e : Expr} {es : List Expr} {pos : Pos}
theorem eo_fr {f : SI} (h : EF c X e f) : EO c X e (sFr f) := by
  refine ⟨pe_imp h.pe fun σ H Q ⟨F, ρ, x, ρ', R, e, k⟩ => ?_⟩
  unfold sFr at e
  cases e1 : f ρ with
  | none => rw [e1] at e; cases e
  | some p =>
    obtain ⟨ds, ρ1⟩ := p
    rw [e1] at e
    cases e
    refine ⟨F, ρ, ds, _, R, e1, fun a H' F' s R' f' => ?_⟩
    obtain ⟨vs, hv, hd⟩ := f'.at_
    have R2 := R'.freeze f' hv
    exact k (.ref a) H' _ (s.trans fun b o z => by rw [upd_ne (ne_of_none z f'.nf)]; exact z) R2 (dp_frozen f'.nf hd)
/-- x = a new list, x changed later -/
def sOwn (i : Nat) (f : SI) : SS := fun ρ => match f ρ with
  | some (ds, ρ1) => some (.nx, ρ1.set i (.own ds))
  | none => none
theorem Rl.putOwn (i : Nat) {F H : Hp} {σ : L2.St} {ρ1 : Ev} {a : Addr} {ds : List PyData} (R' : Rl c F H σ ρ1) (f' : Fresh c F H σ ρ1 a ds) : Rl c F H (σ.set i (some (.ref a))) (ρ1.set i (.own ds)) := by
  obtain ⟨vs, hv, hd⟩ := f'.at_
  have far : ∀ (j : Nat) sl, (ρ1.set i (.own ds))[j]? = some sl → (i = j ∧ sl = .own ds ∧ i < ρ1.length) ∨ (i ≠ j ∧ ρ1[j]? = some sl) := fun j sl e => by
    by_cases hj : i = j
    · subst hj
      by_cases hi : i < ρ1.length
      · rw [List.getElem?_set_self hi] at e
        cases e
        exact .inl ⟨rfl, rfl, hi⟩
      · rw [List.getElem?_eq_none (by simpa using hi)] at e
        cases e
    · rw [List.getElem?_set_ne hj] at e
      exact .inr ⟨hj, e⟩
  refine R'.slots (by rw [List.length_set, List.length_set]; exact R'.len) (fun j sl e => ?_) (fun j m b xs ys e1 e2 e3 e4 => ?_) (fun j m xs ys e1 e2 => ?_)
  · rcases far j sl e with ⟨rfl, rfl, hi⟩ | ⟨hj, e⟩
    · exact ⟨a, vs, vAt_set (by rw [R'.len]; exact hi), hv, hd, f'.nf, f'.nt, f'.h0⟩
    · rw [vAt_ne hj]
      exact R'.sl j sl e
  · rcases far j _ e1 with ⟨rfl, _, hi⟩ | ⟨hj, e1⟩
    · rcases far m _ e2 with ⟨rfl, _, _⟩ | ⟨hm, e2⟩
      · rfl
      · rw [vAt_set (by rw [R'.len]; exact hi)] at e3
        cases e3
        rw [vAt_ne hm] at e4
        exact absurd e4 (f'.no m ys e2)
    · rcases far m _ e2 with ⟨rfl, _, hi⟩ | ⟨hm, e2⟩
      · rw [vAt_set (by rw [R'.len]; exact hi)] at e4
        cases e4
        rw [vAt_ne hj] at e3
        exact absurd e3 (f'.no j xs e1)
      · rw [vAt_ne hj] at e3
        rw [vAt_ne hm] at e4
        exact R'.dj j m b xs ys e1 e2 e3 e4
  · rcases far j _ e1 with ⟨_, h, _⟩ | ⟨hj, e1⟩
    · cases h
    · rcases far m _ e2 with ⟨_, h, _⟩ | ⟨hm, e2⟩
      · cases h
      · exact R'.iu j m xs ys e1 e2
theorem own_core (i : Nat) {f : SI} {D : Ends} {σ : L2.St} {H : Hp} (q : rS c (sOwn i f) D σ H) : rF c f σ H fun x H1 => gName i x σ H1 D.nx := by
  obtain ⟨F, ρ, fl, ρ', R, e, k⟩ := q
  unfold sOwn at e
  cases e1 : f ρ with
  | none => rw [e1] at e; cases e
  | some p =>
    obtain ⟨ds, ρ1⟩ := p
    rw [e1] at e
    cases e
    refine ⟨F, ρ, ds, ρ1, R, e1, fun a H' F' s R' f' => k (σ.set i (some (.ref a))) H' F' s (R'.putOwn i f')⟩
theorem es_own (i : Nat) {f : SI} {st : Stmt} (h : ∀ {te : TE}, PE X e te → PS X st (tAsg te (gName i))) (he : EF c X e f) : ES c X st (sOwn i f) :=
  ⟨ps_imp (h he.pe) fun _ _ _ q => own_core i q⟩
/-- [a, b, ..] -/
def sLst (fa : SA) : SI := fun ρ => match fa ρ with
  | some (xs, ρ1) => match allD xs with
    | some ds => if ds.length ≤ 1000000 then some (ds, ρ1) else none
    | none => none
  | none => none
theorem size_line {n : Nat} (h : n ≤ 1000000) : n ≤ sizeLine := Nat.le_trans h (by decide)
theorem ef_lst {fa : SA} (h : EA c X es fa) : EF c X (.List es pos) (sLst fa) := by
  refine ⟨pe_imp (pe_lst h.pa) fun σ H Q ⟨F, ρ, x, ρ', R, e, k⟩ => ?_⟩
  unfold sLst at e
  cases e1 : fa ρ with
  | none => rw [e1] at e; cases e
  | some p =>
    obtain ⟨xs, ρ1⟩ := p
    rw [e1] at e
    dsimp only at e
    cases e2 : allD xs with
    | none => rw [e2] at e; cases e
    | some ds =>
      rw [e2] at e
      dsimp only at e
      split at e
      · rename_i hn
        cases e
        refine ⟨F, ρ, xs, _, R, e1, fun vs H1 F1 s1 R1 o1 => ?_⟩
        have hd := allD_ok o1 e2
        refine ⟨by rw [dpAll_len hd]; exact size_line hn, fun p hp => ?_⟩
        obtain ⟨R2, f2⟩ := R1.fresh hp hd
        exact k p _ F1 s1 R2 f2
      · cases e
/-- (a, b, ..) -/
def sTup (fa : SA) : SE := fun ρ => match fa ρ with
  | some (xs, ρ1) => match allD xs with
    | some ds => if ds.length ≤ 1000000 then some (.d (.tuple ds), ρ1) else none
    | none => none
  | none => none
theorem dp_newT {K : PySem.W.Frag} {F : Hp} {p : Addr} {vs : List V} {ds : List PyData} {ob : Obj} (fp : F p = none) (h : DpAll K F vs ds) : Dp K (upd F p (.frz ob (.tup vs))) (.ref p) (.tuple ds) :=
  .tup (.inl (.inr ⟨ob, upd_same⟩)) (dpAll_same (fun b o e => by
    rw [upd_ne (ne_of_none e fp)]
    exact e) h)
theorem dp_newL {K : PySem.W.Frag} {F : Hp} {p : Addr} {vs : List V} {ds : List PyData} (fp : F p = none) (h : DpAll K F vs ds) : Dp K (upd F p (.lst vs)) (.ref p) (.list ds) := dp_frozen fp h
theorem eo_tup {fa : SA} {x1 : Nat} (h : EA c X es fa) : EO c X (.Tuple es x1 pos) (sTup fa) := by
  refine ⟨pe_imp (pe_tupF h.pa) fun σ H Q ⟨F, ρ, x, ρ', R, e, k⟩ => ?_⟩
  unfold sTup at e
  cases e1 : fa ρ with
  | none => rw [e1] at e; cases e
  | some p =>
    obtain ⟨xs, ρ1⟩ := p
    rw [e1] at e
    dsimp only at e
    cases e2 : allD xs with
    | none => rw [e2] at e; cases e
    | some ds =>
      rw [e2] at e
      dsimp only at e
      split at e
      · rename_i hn
        cases e
        refine ⟨F, ρ, xs, _, R, e1, fun vs H1 F1 s1 R1 o1 => ?_⟩
        have hd := allD_ok o1 e2
        refine ⟨by rw [dpAll_len hd]; exact size_line hn, fun p ob hp hob => ?_⟩
        have xt := Xt.new (o := .frz ob (.tup vs)) R1.sub hp hob
        exact k (.ref p) _ _ (s1.trans xt.f) (R1.xt xt) (dp_newT (R1.sub.free hp) hd)
      · cases e
/-! ### comprehensions -/
def compL (g : SG) (t : STe) (f : SE) (vs : List Nat) : List PyData → List PyData → Ev → Option (List PyData × Ev)
  | [], acc, ρ => some (acc, ρ)
  | d :: ds, acc, ρ => match g d (wipeE ρ vs) with
    | none => none
    | some ρ1 => match t ρ1 with
      | none => none
      | some (false, ρ2) => compL g t f vs ds acc ρ2
      | some (true, ρ2) => match f ρ2 with
        | some (.d y, ρ3) => if acc.length < 1000000 then compL g t f vs ds (acc ++ [y]) ρ3 else none
        | _ => none
def sComp (fi : SI) (g : SG) (t : STe) (f : SE) (vs : List Nat) : SI := fun ρ => match fi ρ with
  | none => none
  | some (items, ρ1) => if okWipe ρ1 vs then match compL g t f vs items [] ρ1 with
      | some (ds, ρ2) => some (ds, restore (wipeE ρ2 vs) ρ1 vs)
      | none => none
    else none
def tYes' : STe := fun ρ => some (true, ρ)
structure ETs (c : Co) (X : Cx) (ifs : List Expr) (f : STe) : Prop where
  pts : PTs X ifs (rT c f)
theorem ets_nil : ETs c X [] tYes' := ⟨⟨fun pins s σ H Q I ⟨F, ρ, b, ρ', R, e, k⟩ => by
  cases e
  exact pts_nil.run pins s σ H Q I (k H F (Same.refl _) R)⟩⟩
theorem ets_one {q : Expr} {t : STe} (h : ET c X q t) : ETs c X [q] t := ⟨pts_one h.pt⟩
/-- the same context, begun elsewhere -/
abbrev Co.re (c : Co) (H0 F0 : Hp) (io : List Addr) : Co := ⟨c.K, c.T, H0, F0, io⟩
abbrev AnyG (c : Co) (g : SG) (ks : List Nat) : TG := fun x σ H Q => ∃ c' : Co, c'.K = c.K ∧ c'.T = c.T ∧ rG c' g ks x σ H Q
abbrev AnyT (c : Co) (t : STe) : TT := fun σ H Q => ∃ c' : Co, c'.K = c.K ∧ c'.T = c.T ∧ rT c' t σ H Q
abbrev AnyE (c : Co) (f : SE) : TE := fun σ H Q => ∃ c' : Co, c'.K = c.K ∧ c'.T = c.T ∧ rE c' f σ H Q
theorem re_eq {c c' : Co} (hK : c'.K = c.K) (hT : c'.T = c.T) : c' = c.re c'.H0 c'.F0 c'.io := by
  cases c'
  cases c
  cases hK
  cases hT
  rfl
theorem comp_core {fi : SI} {g : SG} {ks : List Nat} {t : STe} {f : SE} {vs : List Nat} (hks : ∀ i ∈ ks, i ∈ vs) {σ : L2.St} {H : Hp} {Q : VK} (hyp : rF c (sComp fi g t f vs) σ H Q) : tLc (rIt c fi) (AnyG c g ks) (AnyT c t) (AnyE c f) vs σ H Q := by
  obtain ⟨F, ρ, out, ρ', R, e, k⟩ := hyp
  unfold sComp at e
  cases e1 : fi ρ with
  | none => rw [e1] at e; cases e
  | some p =>
    obtain ⟨items, ρ1⟩ := p
    rw [e1] at e
    dsimp only at e
    by_cases okw : okWipe ρ1 vs = true
    · rw [if_pos okw] at e
      cases e2 : compL g t f vs items [] ρ1 with
      | none => rw [e2] at e; cases e
      | some q =>
        obtain ⟨ds, ρe⟩ := q
        rw [e2] at e
        cases e
        refine ⟨F, ρ, items, ρ1, R, e1, fun J H1 F1 s1 R1 wk => fun D hD => ?_⟩
        obtain ⟨R2, f2⟩ := R1.fresh (vs := []) (ds := []) hD .nil
        have f0 : c.F0 D = none := R1.mono.free (R1.sub.free hD)
        have nio : D ∉ c.io := fun z => (R2.ioh D z).1 f2.h0
        -- the turns
        refine ⟨fun i m H => i + m = items.length ∧ ∃ F2 ρ2 acc, Same F1 F2 ∧ Rl c F2 H (L2.wipe σ vs) (wipeE ρ2 vs) ∧ Fresh c F2 H (L2.wipe σ vs) (wipeE ρ2 vs) D acc ∧ compL g t f vs (items.drop i) acc ρ2 = some (out, ρe),
          ⟨items.length, by omega, F1, ρ1, [], Same.refl _, R2.wipe vs, ⟨f2.at_, f2.nf, f2.nt, f2.h0, fun i es e z => ?_⟩, e2⟩, ?_⟩
        · by_cases hi : i ∈ vs
          · cases wipeE_in hi e
          · rw [wipeE_out hi] at e
            rw [vAt_wipe_out hi] at z
            exact f2.no i es e z
        · rintro i m H2 ⟨him, F2, ρ2, acc, s2, R2, fr, e3⟩
          cases m with
          | zero =>
            have hi : i = items.length := by omega
            rw [hi, List.drop_length] at e3
            simp only [compL, Option.some.injEq, Prod.mk.injEq] at e3
            obtain ⟨rfl, rfl⟩ := e3
            rw [hi]
            refine .inl ⟨wk.stop F2 H2 s2 R2.sub, ?_⟩
            have R3 := R1.restore s2 okw R2
            refine k D H2 F2 (s1.trans s2) R3 ⟨fr.at_, fr.nf, fr.nt, fr.h0, fun j es e z => ?_⟩
            by_cases hj : j ∈ vs
            · have hl : (wipeE ρ2 vs).length = ρ1.length := by rw [← R2.len, wipe_length, R1.len]
              rw [restore_in hl hj] at e
              have q := List.all_eq_true.mp okw j hj
              rw [e] at q
              cases q
            · rw [restore_out hj] at e
              rw [← vAt_wipe_out hj] at z
              exact fr.no j es e z
          | succ m =>
            have hi : i < items.length := by omega
            rw [List.drop_eq_getElem_cons hi] at e3
            have at_ : items[i]? = some items[i] := List.getElem?_eq_getElem hi
            obtain ⟨go, yl⟩ := wk.go i _ F2 H2 at_ s2 R2.sub
            simp only [compL] at e3
            cases e4 : g items[i] (wipeE ρ2 vs) with
            | none => rw [e4] at e3; cases e3
            | some ρ3 =>
              rw [e4] at e3
              dsimp only at e3
              obtain ⟨av, hav, had⟩ := fr.at_
              have gd := R2.guard fr hav f0
              refine .inr ⟨go, fun H' => i + 1 + m = items.length ∧ ∃ F2 ρ2 acc, Same F1 F2 ∧ Rl c F2 H' (L2.wipe σ vs) (wipeE ρ2 vs) ∧ Fresh c F2 H' (L2.wipe σ vs) (wipeE ρ2 vs) D acc ∧ compL g t f vs (items.drop (i + 1)) acc ρ2 = some (out, ρe), fun H' hN => ⟨m, by omega, hN⟩, fun x H3 hy => ?_⟩
              obtain ⟨F3, xt, dx⟩ := yl x H3 hy
              refine ⟨c.with D (.lst av), rfl, rfl, F3, wipeE ρ2 vs, _, ρ3, gd.xt xt, dx, e4, fun σ4 but R4 => ?_⟩
              have ew : L2.wipe σ4 vs = L2.wipe σ vs := wipe_but (fun j hj => (but.2 j fun z => hj (hks j z)).trans (wipe_out hj)) (but.1.trans (wipe_length σ vs))
              refine ⟨ew, ?_⟩
              cases e5 : t ρ3 with
              | none => rw [e5] at e3; cases e3
              | some q =>
                obtain ⟨b, ρ5⟩ := q
                rw [e5] at e3
                refine ⟨c.with D (.lst av), rfl, rfl, F3, ρ3, b, ρ5, R4, e5, fun H5 F5 s5 R5 => ?_⟩
                cases b with
                | false =>
                  dsimp only at e3
                  simp only [Bool.false_eq_true, if_false]
                  obtain ⟨R6, hD6, fD6, no6⟩ := R5.unguard f2.h0 f2.nt nio f0
                  have R7 := R6.wipe vs
                  rw [ew] at R7
                  refine ⟨by omega, F5, ρ5, acc, s2.trans (xt.f.trans s5), R7, ⟨⟨av, hD6, dpAll_same (xt.f.trans s5) had⟩, fD6, f2.nt, f2.h0, fun j es e z => ?_⟩, e3⟩
                  by_cases hj : j ∈ vs
                  · cases wipeE_in hj e
                  · rw [wipeE_out hj] at e
                    rw [← ew, vAt_wipe_out hj] at z
                    exact no6 j es e z
                | true =>
                  dsimp only at e3
                  simp only [if_true]
                  cases e6 : f ρ5 with
                  | none => rw [e6] at e3; cases e3
                  | some q =>
                    obtain ⟨y, ρ6⟩ := q
                    rw [e6] at e3
                    cases y with
                    | s i => cases e3
                    | d y =>
                      dsimp only at e3
                      split at e3
                      · rename_i hacc
                        refine ⟨c.with D (.lst av), rfl, rfl, F5, ρ5, _, ρ6, R5, e6, fun v H7 F7 s7 R7 o7 => ?_⟩
                        obtain ⟨R8, hD8, fD8, no8⟩ := R7.unguard f2.h0 f2.nt nio f0
                        have had8 : DpAll c.K F7 av acc := dpAll_same (xt.f.trans (s5.trans s7)) had
                        refine ⟨av, hD8, by rw [dpAll_len had]; exact Nat.lt_of_lt_of_le hacc (by decide), by omega, F7, ρ6, acc ++ [y], s2.trans (xt.f.trans (s5.trans s7)), ?_, ⟨⟨av ++ [v], upd_same, dpAll_app had8 (.cons o7 .nil)⟩, fD8, f2.nt, f2.h0, fun j es e z => ?_⟩, e3⟩
                        · have R9 := (R8.side (o := .lst (av ++ [v])) hD8 fD8 f2.nt f2.h0 no8).wipe vs
                          rw [ew] at R9
                          exact R9
                        · by_cases hj : j ∈ vs
                          · cases wipeE_in hj e
                          · rw [wipeE_out hj] at e
                            rw [← ew, vAt_wipe_out hj] at z
                            exact no8 j es e z
                      · cases e3
    · rw [if_neg okw] at e
      cases e

section
variable {elt tg iter : Expr} {ifs : List Expr} {scope : Scope} {own : List (Str × Nat)} {fi : SI} {g : SG} {ks : List Nat} {t : STe} {f : SE}
theorem any_g {G : Cx} (h : ∀ H0 F0 io, EG (c.re H0 F0 io) G tg g ks) : PG G tg (AnyG c g ks) := ⟨fun pins s' σ H' v u Q I r ⟨c', hK, hT, q⟩ => by
  rw [re_eq hK hT] at q
  exact (h _ _ _).pg.run pins s' σ H' v u Q I r q⟩
theorem any_t {G : Cx} (h : ∀ H0 F0 io, ETs (c.re H0 F0 io) G ifs t) : PTs G ifs (AnyT c t) := ⟨fun pins s' σ H' Q I ⟨c', hK, hT, q⟩ => by
  rw [re_eq hK hT] at q
  exact (h _ _ _).pts.run pins s' σ H' Q I q⟩
theorem any_e {G : Cx} (h : ∀ H0 F0 io, EO (c.re H0 F0 io) G elt f) : PE G elt (AnyE c f) := ⟨fun pins s' σ H' Q I ⟨c', hK, hT, q⟩ => by
  rw [re_eq hK hT] at q
  exact (h _ _ _).pe.run pins s' σ H' Q I q⟩
theorem ef_comp
    (h : ∀ {wi : TI} {g' : TG} {tt : TT} {te : TE}, PI X tg iter wi → (∀ (s : Shared) (H : Hp) (C : Addr) (cl : List (Str × Addr)) (fp : List Addr), PG (X.blk s H scope (compEnvC scope cl C X.env) fp) tg g') →
      (∀ (s : Shared) (H : Hp) (C : Addr) (cl : List (Str × Addr)) (fp : List Addr), PTs (X.blk s H scope (compEnvC scope cl C X.env) fp) ifs tt) → (∀ (s : Shared) (H : Hp) (C : Addr) (cl : List (Str × Addr)) (fp : List Addr), PE (X.blk s H scope (compEnvC scope cl C X.env) fp) elt te) → PE X e (tLc wi g' tt te (own.map (·.2))))
    (hi : EI c X tg iter fi) (hks : ∀ i ∈ ks, i ∈ own.map (·.2))
    (hg : ∀ H0 F0 io (s : Shared) (H : Hp) (C : Addr) (cl : List (Str × Addr)) (fp : List Addr), EG (c.re H0 F0 io) (X.blk s H scope (compEnvC scope cl C X.env) fp) tg g ks)
    (ht : ∀ H0 F0 io (s : Shared) (H : Hp) (C : Addr) (cl : List (Str × Addr)) (fp : List Addr), ETs (c.re H0 F0 io) (X.blk s H scope (compEnvC scope cl C X.env) fp) ifs t)
    (he : ∀ H0 F0 io (s : Shared) (H : Hp) (C : Addr) (cl : List (Str × Addr)) (fp : List Addr), EO (c.re H0 F0 io) (X.blk s H scope (compEnvC scope cl C X.env) fp) elt f) :
    EF c X e (sComp fi g t f (own.map (·.2))) :=
  ⟨pe_imp (h hi.pi (fun s H C cl fp => any_g fun H0 F0 io => hg H0 F0 io s H C cl fp) (fun s H C cl fp => any_t fun H0 F0 io => ht H0 F0 io s H C cl fp) fun s H C cl fp => any_e fun H0 F0 io => he H0 F0 io s H C cl fp) fun _ _ _ hyp => comp_core hks hyp⟩
/-- x = [..] on one line, as the model stores it -/
theorem setlc_core {i : Nat} {st : Stmt} {G : SI} {S : SS} (hS : ∀ D σ H, rS c S D σ H → rF c G σ H fun x H1 => gName i x σ H1 D.nx) {tt : TE} (h : PS X st (tAsg tt (gName i))) (hG : ∀ σ H Q, rF c G σ H Q → tt σ H Q) : ES c X st S :=
  ⟨ps_imp h fun D σ H q => hG σ H _ (hS D σ H q)⟩
theorem frS {i : Nat} {G : SI} : ∀ D σ H, rS c (sAsg (sFr G) (gN i)) D σ H → rF c G σ H fun x H1 => gName i x σ H1 D.nx := fun D σ H ⟨F, ρ, fl, ρ', R, e, k⟩ => by
  unfold sAsg sFr at e
  cases e1 : G ρ with
  | none => simp [e1] at e
  | some p =>
    obtain ⟨ds, ρ1⟩ := p
    simp only [e1, gN, Option.map_some, Option.some.injEq, Prod.mk.injEq] at e
    obtain ⟨rfl, rfl⟩ := e
    refine ⟨F, ρ, ds, ρ1, R, e1, fun a H' F' s R' f' => ?_⟩
    obtain ⟨vs, hv, hd⟩ := f'.at_
    exact k _ H' _ (s.trans fun b o z => by rw [upd_ne (ne_of_none z f'.nf)]; exact z) ((R'.freeze f' hv).set (dp_frozen f'.nf hd))
theorem ownS {i : Nat} {G : SI} : ∀ D σ H, rS c (sOwn i G) D σ H → rF c G σ H fun x H1 => gName i x σ H1 D.nx := fun D σ H q => own_core i q
end
end
end PD

/-! Plain data: all(..), calls of built-ins, what is changed in place; the operations themselves -/
namespace PD
open PySem PySem.Spec PyProof.Rows L2 GxR LG

/-! ### all(..) -/
def allL (g : SG) (f : SE) (vs : List Nat) : List PyData → Ev → Option (Bool × Ev)
  | [], ρ => some (true, ρ)
  | d :: ds, ρ => match g d (wipeE ρ vs) with
    | none => none
    | some ρ1 => match f ρ1 with
      | some (.d (.bool true), ρ2) => allL g f vs ds ρ2
      | some (.d (.bool false), ρ2) => some (false, ρ2)
      | _ => none
def sAll (fi : SI) (g : SG) (f : SE) (vs : List Nat) : SE := fun ρ => match fi ρ with
  | none => none
  | some (items, ρ1) => if okWipe ρ1 vs then match allL g f vs items ρ1 with
      | some (b, ρ2) => some (.d (.bool b), restore (wipeE ρ2 vs) ρ1 vs)
      | none => none
    else none
section
variable {c : Co} {X : Cx} {e : Expr} {es : List Expr} {pos : Pos}
theorem Rl.tabbed {F H H' : Hp} {σ : L2.St} {ρ : Ev} {P : Addr} (R : Rl c F H σ ρ) (hP : P ∈ c.T) (t : Tabbed P H H') : Rl c F H' σ ρ := by
  have same : ∀ b, b ≠ P → H' b = H b := t.2
  refine R.call (Same.refl _) (fun b o e => ?_) (fun Q hQ => ⟨R.ft Q hQ, ?_⟩) (fun b o e hb => ?_) (fun _ _ h => h) R.tf
  · have nb : b ≠ P := fun z => by
      rw [z, R.ft P hP] at e
      cases e
    rw [same b nb]
    exact R.sub _ _ e
  · by_cases h : Q = P
    · rw [h]
      exact t.1
    · obtain ⟨ps, e, q⟩ := R.tb Q hQ
      exact ⟨ps, by rw [same Q h]; exact e, q⟩
  · rw [same b (fun z => hb (by rw [z]; exact hP))]
    exact e
theorem eo_all {elt tg iter : Expr} {scope : Scope} {own : List (Str × Nat)} {fi : SI} {g : SG} {ks : List Nat} {f : SE} {P : Addr} {k : Nat} (hP : P ∈ c.T)
    (h : ∀ {wi : TI} {g' : TG} {te : TE}, PI X tg iter wi → (∀ (s : Shared) (H : Hp) (A' : Around) (C : Addr) (code : Value) (fp : List Addr), PG (gcx X s H scope A' (gEnvOf X scope C code) fp) tg g') →
      (∀ (s : Shared) (H : Hp) (A' : Around) (C : Addr) (code : Value) (fp : List Addr), Room k A' → PE (gcx X s H scope A' (gEnvOf X scope C code) fp) elt te) → PE X e (tAllG wi g' te P (own.map (·.2))))
    (hi : EI c X tg iter fi)
    (hks : ∀ i ∈ ks, i ∈ own.map (·.2))
    (hg : ∀ (s : Shared) (H : Hp) (A' : Around) (C : Addr) (code : Value) (fp : List Addr), EG c (gcx X s H scope A' (gEnvOf X scope C code) fp) tg g ks)
    (he : ∀ (s : Shared) (H : Hp) (A' : Around) (C : Addr) (code : Value) (fp : List Addr), Room k A' → EO c (gcx X s H scope A' (gEnvOf X scope C code) fp) elt f) :
    EO c X e (sAll fi g f (own.map (·.2))) := by
  have h' := h hi.pi (fun s H A' C code fp => (hg s H A' C code fp).pg) (fun s H A' C code fp hr => (he s H A' C code fp hr).pe)
  generalize hvs : own.map (·.2) = vs at h' hks ⊢
  refine ⟨pe_imp h' fun σ H Q ⟨F, ρ, x, ρ', R, e, kk⟩ => ?_⟩
  unfold sAll at e
  cases e1 : fi ρ with
  | none => rw [e1] at e; cases e
  | some p =>
    obtain ⟨items, ρ1⟩ := p
    rw [e1] at e
    dsimp only at e
    by_cases okw : okWipe ρ1 vs = true
    · rw [if_pos okw] at e
      cases e2 : allL g f vs items ρ1 with
      | none => rw [e2] at e; cases e
      | some q =>
        obtain ⟨b, ρe⟩ := q
        rw [e2] at e
        cases e
        refine ⟨F, ρ, items, ρ1, R, e1, fun J H1 F1 s1 R1 wk => ⟨R1.tb P hP, fun H2 tb => ?_⟩⟩
        have R2 := R1.tabbed hP tb
        have fin : ∀ F2 H2 ρ2, Same F1 F2 → Rl c F2 H2 (L2.wipe σ vs) (wipeE ρ2 vs) → ρ2 = ρe → Q (.bl b) H2 := fun F2 H2 ρ2 s2 R2 e => by
          subst e
          exact kk (.bl b) H2 F2 (s1.trans s2) (R1.restore s2 okw R2) (.bl b)
        refine ⟨items.length, fun i H => ∃ F2 ρ2, Same F1 F2 ∧ Rl c F2 H (L2.wipe σ vs) (wipeE ρ2 vs) ∧ allL g f vs (items.drop i) ρ2 = some (b, ρe), ⟨F1, ρ1, Same.refl _, R2.wipe vs, e2⟩, ?_, ?_⟩
        · rintro i H3 hi ⟨F3, ρ3, s3, R3, e3⟩
          rw [List.drop_eq_getElem_cons hi] at e3
          have at_ : items[i]? = some items[i] := List.getElem?_eq_getElem hi
          obtain ⟨go, yl⟩ := wk.go i _ F3 H3 at_ s3 R3.sub
          refine ⟨go, fun x H4 hy => ?_⟩
          simp only [allL] at e3
          cases e4 : g items[i] (wipeE ρ3 vs) with
          | none => rw [e4] at e3; cases e3
          | some ρ4 =>
            rw [e4] at e3
            dsimp only at e3
            obtain ⟨F4, xt, dx⟩ := yl x H4 hy
            refine ⟨F4, wipeE ρ3 vs, _, ρ4, R3.xt xt, dx, e4, fun σ4 but R4 => ?_⟩
            have ew : L2.wipe σ4 vs = L2.wipe σ vs := wipe_but (fun j hj => (but.2 j fun z => hj (hks j z)).trans (wipe_out hj)) (but.1.trans (wipe_length σ vs))
            refine ⟨ew, ?_⟩
            obtain ⟨t, ρ5, e5, e6⟩ := bool_cases (f := f) (k1 := fun ρ2 => allL g f vs (items.drop (i + 1)) ρ2) (k2 := fun ρ2 => some (false, ρ2)) e3
            refine ⟨F4, ρ4, _, ρ5, R4, e5, fun v H6 F6 s6 R6 o6 => ?_⟩
            cases o6
            have R7 := R6.wipe vs
            rw [ew] at R7
            refine ⟨t, rfl, fun ht => ?_, fun ht => ?_⟩
            · subst ht
              exact ⟨F6, ρ5, s3.trans (xt.f.trans s6), R7, e6⟩
            · subst ht
              simp only [Bool.false_eq_true, if_false, Option.some.injEq, Prod.mk.injEq] at e6
              obtain ⟨rfl, rfl⟩ := e6
              exact fin F6 H6 ρ5 (s3.trans (xt.f.trans s6)) R7 rfl
        · rintro H3 ⟨F3, ρ3, s3, R3, e3⟩
          rw [List.drop_length] at e3
          simp only [allL, Option.some.injEq, Prod.mk.injEq] at e3
          obtain ⟨rfl, rfl⟩ := e3
          exact ⟨wk.stop F3 H3 s3 R3.sub, fin F3 H3 ρ3 s3 R3 rfl⟩
    · rw [if_neg okw] at e
      cases e

/-! ### built-ins by values -/
def allR (ρ : Ev) : List Ob → Option (List PyData)
  | [] => some []
  | x :: r => match res ρ x, allR ρ r with
    | some d, some ds => some (d :: ds)
    | _, _ => none
def VwAll (K : PySem.W.Frag) (F H : Hp) : List V → List PyData → Prop
  | [], [] => True
  | v :: vs, d :: ds => Vw K F H v d ∧ VwAll K F H vs ds
  | _, _ => False
theorem allR_ok {F H : Hp} {σ : L2.St} {ρ : Ev} (R : Rl c F H σ ρ) : ∀ {vs : List V} {xs : List Ob} {ds : List PyData}, ObsOk c F σ vs xs → allR ρ xs = some ds → VwAll c.K F H vs ds
  | [], [], _, _, e => by cases e; trivial
  | v :: vs, x :: xs, ds, h, e => by
    simp only [allR] at e
    cases e1 : res ρ x with
    | none => simp [e1] at e
    | some d =>
      cases e2 : allR ρ xs with
      | none => simp [e1, e2] at e
      | some r =>
        simp only [e1, e2, Option.some.injEq] at e
        subst e
        exact ⟨R.vw h.1 e1, allR_ok R h.2 e2⟩
  | [], _ :: _, _, h, _ => h.elim
  | _ :: _, [], _, h, _ => h.elim
def sN (f : List PyData → Option PyData) (fa : SA) : SE := fun ρ => match fa ρ with
  | some (xs, ρ1) => match allR ρ1 xs with
    | some ds => (f ds).map fun d => (.d d, ρ1)
    | none => none
  | none => none
def LNok (K : PySem.W.Frag) (r : List V → Hp → VK → Prop) (f : List PyData → Option PyData) : Prop :=
  ∀ (F H : Hp) (vs : List V) (ds : List PyData) (z : PyData) (Q : VK), Same F H → VwAll K F H vs ds → f ds = some z → (∀ v F' H', Xt F H F' H' → Dp K F' v z → Q v H') → r vs H Q
theorem eo_bn {r : List V → Hp → VK → Prop} {f : List PyData → Option PyData} {fa : SA} {ce : Expr} (h : ∀ {t : TA}, PA X es t → PE X ce (tCB r t)) (hl : LNok c.K r f) (ha : EA c X es fa) : EO c X ce (sN f fa) := by
  refine ⟨pe_imp (h ha.pa) fun σ H Q ⟨F, ρ, x, ρ', R, e, k⟩ => ?_⟩
  unfold sN at e
  cases e1 : fa ρ with
  | none => rw [e1] at e; cases e
  | some p =>
    obtain ⟨xs, ρ1⟩ := p
    rw [e1] at e
    dsimp only at e
    cases e2 : allR ρ1 xs with
    | none => rw [e2] at e; cases e
    | some ds =>
      rw [e2] at e
      dsimp only at e
      cases e3 : f ds with
      | none => rw [e3] at e; cases e
      | some d =>
        rw [e3] at e
        cases e
        exact ⟨F, ρ, xs, _, R, e1, fun vs H1 F1 s1 R1 o1 => hl F1 H1 vs ds d Q R1.sub (allR_ok R1 o1 e2) e3 fun v F' H' xt dv => k v H' F' (s1.trans xt.f) (R1.xt xt) dv⟩
/-- .. whose answer is a new list, nobody's yet -/
def sNF (f : List PyData → Option (List PyData)) (fa : SA) : SI := fun ρ => match fa ρ with
  | some (xs, ρ1) => match allR ρ1 xs with
    | some ds => (f ds).map fun d => (d, ρ1)
    | none => none
  | none => none
def LFok (K : PySem.W.Frag) (r : List V → Hp → VK → Prop) (f : List PyData → Option (List PyData)) : Prop :=
  ∀ (F H : Hp) (vs : List V) (ds z : List PyData) (Q : VK), Same F H → VwAll K F H vs ds → f ds = some z → (∀ p us, H p = none → DpAll K F us z → Q (.ref p) (upd H p (.lst us))) → r vs H Q
theorem ef_bn {r : List V → Hp → VK → Prop} {f : List PyData → Option (List PyData)} {fa : SA} {ce : Expr} (h : ∀ {t : TA}, PA X es t → PE X ce (tCB r t)) (hl : LFok c.K r f) (ha : EA c X es fa) : EF c X ce (sNF f fa) := by
  refine ⟨pe_imp (h ha.pa) fun σ H Q ⟨F, ρ, x, ρ', R, e, k⟩ => ?_⟩
  unfold sNF at e
  cases e1 : fa ρ with
  | none => rw [e1] at e; cases e
  | some p =>
    obtain ⟨xs, ρ1⟩ := p
    rw [e1] at e
    dsimp only at e
    cases e2 : allR ρ1 xs with
    | none => rw [e2] at e; cases e
    | some ds =>
      rw [e2] at e
      dsimp only at e
      cases e3 : f ds with
      | none => rw [e3] at e; cases e
      | some d =>
        rw [e3] at e
        cases e
        exact ⟨F, ρ, xs, _, R, e1, fun vs H1 F1 s1 R1 o1 => hl F1 H1 vs ds _ Q R1.sub (allR_ok R1 o1 e2) e3 fun p us hp hd => let ⟨R2, f2⟩ := R1.fresh hp hd; k p _ F1 s1 R2 f2⟩
/-- a two-place operation whose answer is a new list -/
def s2F (f : PyData → PyData → Option (List PyData)) (fa fb : SE) : SI := fun ρ => match fa ρ with
  | none => none
  | some (x, ρ1) => match fb ρ1 with
    | none => none
    | some (y, ρ2) => match res ρ2 x, res ρ2 y with
      | some d, some e => (f d e).map fun z => (z, ρ2)
      | _, _ => none
def L2F (K : PySem.W.Frag) (r : R2) (f : PyData → PyData → Option (List PyData)) : Prop :=
  ∀ (F H : Hp) (x y : V) (d e : PyData) (z : List PyData) (Q : VK), Same F H → Vw K F H x d → Vw K F H y e → f d e = some z → (∀ p us, H p = none → DpAll K F us z → Q (.ref p) (upd H p (.lst us))) → r x y H Q
theorem ef_op {a b : Expr} {fa fb : SE} {op : Operator} {r : R2} {f : PyData → PyData → Option (List PyData)} (ho : OpR X (binaryOp op) r) (hl : L2F c.K r f) (ha : EO c X a fa) (hb : EO c X b fb) : EF c X (.BinOp a op b pos) (s2F f fa fb) := by
  refine ⟨pe_imp (pe_op ho ha.pe hb.pe) fun σ H Q ⟨F, ρ, x, ρ', R, h, k⟩ => ?_⟩
  unfold s2F at h
  cases h1 : fa ρ with
  | none => rw [h1] at h; cases h
  | some p =>
    obtain ⟨u, ρ1⟩ := p
    rw [h1] at h
    dsimp only at h
    cases h2 : fb ρ1 with
    | none => rw [h2] at h; cases h
    | some q =>
      obtain ⟨v, ρ2⟩ := q
      rw [h2] at h
      dsimp only at h
      cases h3 : res ρ2 u with
      | none => rw [h3] at h; cases h
      | some d =>
        cases h4 : res ρ2 v with
        | none => rw [h3, h4] at h; cases h
        | some e' =>
          rw [h3, h4] at h
          dsimp only at h
          cases h5 : f d e' with
          | none => rw [h5] at h; cases h
          | some z =>
            rw [h5] at h
            cases h
            refine ⟨F, ρ, u, ρ1, R, h1, fun xv H1 F1 s1 R1 o1 => ⟨F1, ρ1, v, _, R1, h2, fun yv H2 F2 s2 R2 o2 => ?_⟩⟩
            exact hl F2 H2 xv yv d e' _ Q R2.sub (R2.vw (o1.same s2) h3) (R2.vw o2 h4) h5 fun p us hp hd => let ⟨R3, f3⟩ := R2.fresh hp hd; k p _ F2 (s1.trans s2) R3 f3
/-! ### range -/
theorem ei_rg1 {a : Expr} {fa : SA} {tg ce : Expr} (h : ∀ {t : TA}, PA X [a] t → PI X tg ce (iRng1 t)) (ha : EA c X [a] fa) : EI c X tg ce (sRg1 fa) := by
  refine ⟨⟨fun pins s σ H R I ⟨F, ρ, items, ρ', RR, e1, k⟩ => ?_⟩⟩
  unfold sRg1 at e1
  split at e1
  · rename_i n ρ1 e2
    split at e1
    · rename_i hn
      cases e1
      refine (h ha.pa).run pins s σ H R I ⟨F, ρ, _, _, RR, e2, fun vs H1 F1 s1 R1 o1 => ?_⟩
      match vs, o1 with
      | [v], ⟨o, _⟩ =>
        cases o
        have w : Wk c (Itr 0 (n - 0).toNat) F1 (rangeD 0 n) := wk_range
        rw [Int.sub_zero] at w
        exact ⟨n, rfl, by omega, by omega, k _ H1 F1 s1 R1 w⟩
    · cases e1
  · cases e1
theorem ei_rg2 {a b : Expr} {fa : SA} {tg ce : Expr} (h : ∀ {t : TA}, PA X [a, b] t → PI X tg ce (iRng2 t)) (ha : EA c X [a, b] fa) : EI c X tg ce (sRg2 fa) := by
  refine ⟨⟨fun pins s σ H R I ⟨F, ρ, items, ρ', RR, e1, k⟩ => ?_⟩⟩
  unfold sRg2 at e1
  split at e1
  · rename_i n m ρ1 e2
    split at e1
    · rename_i hn
      cases e1
      refine (h ha.pa).run pins s σ H R I ⟨F, ρ, _, _, RR, e2, fun vs H1 F1 s1 R1 o1 => ?_⟩
      match vs, o1 with
      | [v, w], ⟨o, o', _⟩ =>
        cases o
        cases o'
        exact ⟨n, m, rfl, ⟨by omega, by omega, by omega, by omega⟩, k _ H1 F1 s1 R1 wk_range⟩
    · cases e1
  · cases e1
/-! ### changed in place -/
def sApp (i : Nat) (f : SE) : SS := fun ρ => match cont? ρ i with
  | none => none
  | some _ => match f ρ with
    | some (.d y, ρ1) => match cont? ρ1 i with
      | some ds => if ds.length < 1000000 then some (.nx, setCont ρ1 i (ds ++ [y])) else none
      | none => none
    | _ => none
theorem cont_at {F H : Hp} {σ : L2.St} {ρ : Ev} {i : Nat} {rs : List PyData} (R : Rl c F H σ ρ) (e2 : cont? ρ i = some rs) : ∃ r ws, vAt σ i = some (.ref r) ∧ H r = some (.lst ws) ∧ DpAll c.K F ws rs ∧ F r = none ∧ r ∉ c.T := by
  unfold cont? at e2
  cases q : ρ[i]? with
  | none => rw [q] at e2; cases e2
  | some sl =>
    rw [q] at e2
    have ok := R.sl i sl q
    cases sl with
    | un => cases e2
    | dat d => cases e2
    | own es' =>
      cases e2
      obtain ⟨a, ws, z1, z2, z3, z4, z5, _⟩ := ok
      exact ⟨a, ws, z1, z2, z3, z4, z5⟩
    | io es' =>
      cases e2
      obtain ⟨a, ws, z0, z1, z2, z3, z4, z5⟩ := ok
      exact ⟨a, ws, z1, z2, z3, z4, z5⟩
theorem Rl.put {F H : Hp} {σ : L2.St} {ρ : Ev} {i : Nat} {rs rs' : List PyData} {r : Addr} {ws : List V} (R : Rl c F H σ ρ) (hc : cont? ρ i = some rs) (hv : vAt σ i = some (.ref r)) (fr : F r = none) (nT : r ∉ c.T) (hw : DpAll c.K F ws rs') : Rl c F (upd H r (.lst ws)) σ (setCont ρ i rs') := by
  refine R.callI hc hv (Same.refl _) (fun b o e => ?_) (fun P hP => ⟨R.ft P hP, ?_⟩) (fun b o e _ nb => ?_) upd_same hw fr (fun _ _ h => h) R.tf
  · rw [upd_ne (ne_of_none e fr)]
    exact R.sub _ _ e
  · obtain ⟨ps, e, t⟩ := R.tb P hP
    have n : P ≠ r := fun z => nT (by rw [← z]; exact hP)
    exact ⟨ps, by rw [upd_ne n]; exact e, t⟩
  · rw [upd_ne nb]
    exact e
theorem es_app (i : Nat) {f : SE} {st : Stmt} (hK : X.K = c.K) (h : ∀ {te : TE}, PE X e te → PS X st (tDrop (tBM X.K "list" rAppend (tVar i) (tCons te tNil)))) (he : EO c X e f) : ES c X st (sApp i f) := by
  refine ⟨ps_imp (h he.pe) fun D σ H ⟨F, ρ, fl, ρ', R, e, k⟩ => ?_⟩
  unfold sApp at e
  cases e0 : cont? ρ i with
  | none => rw [e0] at e; cases e
  | some rs0 =>
    rw [e0] at e
    dsimp only at e
    obtain ⟨r, ws, v0, v1, v2, v3, v4⟩ := cont_at R e0
    cases e1 : f ρ with
    | none => rw [e1] at e; cases e
    | some p =>
      obtain ⟨x, ρ1⟩ := p
      rw [e1] at e
      cases x with
      | s i => cases e
      | d y =>
        dsimp only at e
        cases e2 : cont? ρ1 i with
        | none => rw [e2] at e; cases e
        | some ds =>
          rw [e2] at e
          dsimp only at e
          split at e
          · rename_i hn
            cases e
            refine ⟨.ref r, vAt_eq v0, .inl ⟨rfl, ws, .inl (.inl v1)⟩, F, ρ, _, ρ1, R, e1, fun v H1 F1 s1 R1 o1 => ?_⟩
            obtain ⟨r1, ws1, w0, w1, w2, w3, w4⟩ := cont_at R1 e2
            rw [v0] at w0
            cases w0
            exact ⟨r, ws1, v, rfl, rfl, w1, by rw [dpAll_len w2]; exact Nat.lt_of_lt_of_le hn (by decide), k σ _ F1 s1 (R1.put e2 v0 w3 w4 (dpAll_app w2 (.cons o1 .nil)))⟩
          · cases e
def sSetIx (i : Nat) (fi fe : SE) : SS := fun ρ => match fe ρ with
  | some (.d y, ρ1) => match cont? ρ1 i with
    | none => none
    | some _ => match fi ρ1 with
      | some (.d (.int n), ρ2) => match cont? ρ2 i with
        | some ds => (ixN ds.length n).map fun j => (.nx, setCont ρ2 i (ds.set j y))
        | none => none
      | _ => none
  | _ => none
theorem es_setIx (i : Nat) {fi fe : SE} {st : Stmt} {ie : Expr} (h : ∀ {te ti : TE}, PE X e te → PE X ie ti → PS X st (tAsg te (gSub (tVar i) ti rSetL))) (he : EO c X e fe) (hi : EO c X ie fi) : ES c X st (sSetIx i fi fe) := by
  refine ⟨ps_imp (h he.pe hi.pe) fun D σ H ⟨F, ρ, fl, ρ', R, e, k⟩ => ?_⟩
  unfold sSetIx at e
  cases e1 : fe ρ with
  | none => rw [e1] at e; cases e
  | some p =>
    obtain ⟨x, ρ1⟩ := p
    rw [e1] at e
    cases x with
    | s i => cases e
    | d y =>
      dsimp only at e
      cases e2 : cont? ρ1 i with
      | none => rw [e2] at e; cases e
      | some rs1 =>
        rw [e2] at e
        dsimp only at e
        split at e
        · rename_i n ρ2 e3
          cases e4 : cont? ρ2 i with
          | none => rw [e4] at e; cases e
          | some ds =>
            rw [e4] at e
            dsimp only at e
            cases e5 : ixN ds.length n with
            | none => rw [e5] at e; cases e
            | some j =>
              rw [e5] at e
              cases e
              refine ⟨F, ρ, _, ρ1, R, e1, fun v H1 F1 s1 R1 o1 => ?_⟩
              obtain ⟨r, ws, v0, v1, v2, v3, v4⟩ := cont_at R1 e2
              refine ⟨.ref r, vAt_eq v0, F1, ρ1, _, ρ2, R1, e3, fun u H2 F2 s2 R2 o2 => ?_⟩
              cases o2
              obtain ⟨r2, ws2, w0, w1, w2, w3, w4⟩ := cont_at R2 e4
              rw [v0] at w0
              cases w0
              exact ⟨r, ws2, n, j, rfl, rfl, w1, by rw [dpAll_len w2]; exact e5, k σ _ F2 (s1.trans s2) (R2.put e4 v0 w3 w4 (dpAll_set j w2 (dp_same s2 o1)))⟩
        · cases e
/-! ### chains -/
theorem ch_use {r r' : R2} {f g : PyData → PyData → Option PyData} {fa fb fc : SE} (hl : L2ok c.K r f) (hl' : L2ok c.K r' g) {σ : L2.St} {H : Hp} {Q : VK} (h : rE c (sChain f g fa fb fc) σ H Q)
    (hq : ∀ H, Q (.bl false) H → True) : tChain r r' (rE c fa) (rE c fb) (rE c fc) σ H Q := by
  obtain ⟨F, ρ, x, ρ', R, e, k⟩ := h
  unfold sChain at e
  cases h1 : fa ρ with
  | none => rw [h1] at e; cases e
  | some p =>
    obtain ⟨u, ρ1⟩ := p
    rw [h1] at e
    dsimp only at e
    cases h2 : fb ρ1 with
    | none => rw [h2] at e; cases e
    | some q =>
      obtain ⟨v, ρ2⟩ := q
      rw [h2] at e
      dsimp only at e
      cases h3 : res ρ2 u with
      | none => rw [h3] at e; cases e
      | some d =>
        cases h4 : res ρ2 v with
        | none => rw [h3, h4] at e; cases e
        | some e' =>
          rw [h3, h4] at e
          dsimp only at e
          refine ⟨F, ρ, u, ρ1, R, h1, fun xv H1 F1 s1 R1 o1 => ⟨F1, ρ1, v, ρ2, R1, h2, fun yv H2 F2 s2 R2 o2 => ?_⟩⟩
          cases h5 : f d e' with
          | none => rw [h5] at e; cases e
          | some z =>
            rw [h5] at e
            cases z with
            | bool b =>
              cases b with
              | false =>
                cases e
                refine hl F2 H2 xv yv d e' _ _ R2.sub (R2.vw (o1.same s2) h3) (R2.vw o2 h4) h5 fun w F3 H3 xt dz => ?_
                cases dz
                exact ⟨false, rfl, by
                  simp only [Bool.false_eq_true, if_false]
                  exact k _ H3 F3 (s1.trans (s2.trans xt.f)) (R2.xt xt) (.bl false)⟩
              | true =>
                dsimp only at e
                refine hl F2 H2 xv yv d e' _ _ R2.sub (R2.vw (o1.same s2) h3) (R2.vw o2 h4) h5 fun w F3 H3 xt dz => ?_
                cases dz
                refine ⟨true, rfl, ?_⟩
                simp only [if_true]
                cases h6 : fc ρ2 with
                | none => rw [h6] at e; cases e
                | some q =>
                  obtain ⟨z, ρ3⟩ := q
                  rw [h6] at e
                  dsimp only at e
                  cases h7 : res ρ3 v with
                  | none => rw [h7] at e; cases e
                  | some e2 =>
                    cases h8 : res ρ3 z with
                    | none => rw [h7, h8] at e; cases e
                    | some e3 =>
                      rw [h7, h8] at e
                      dsimp only at e
                      cases h9 : g e2 e3 with
                      | none => rw [h9] at e; cases e
                      | some w =>
                        rw [h9] at e
                        cases e
                        refine ⟨F3, ρ2, z, _, R2.xt xt, h6, fun zv H4 F4 s4 R4 o4 => ?_⟩
                        exact hl' F4 H4 yv zv e2 e3 _ Q R4.sub (R4.vw (o2.same (xt.f.trans s4)) h7) (R4.vw o4 h8) h9 fun w' F5 H5 xt5 d5 => k w' H5 F5 (s1.trans (s2.trans (xt.f.trans (s4.trans xt5.f)))) (R4.xt xt5) d5
            | _ => cases e
theorem eo_chain {a b d : Expr} {fa fb fd : SE} {op op' : CmpOp} {r r' : R2} {f g : PyData → PyData → Option PyData} (ho : OpR X (compareOp op) r) (ho' : OpR X (compareOp op') r') (hl : L2ok c.K r f) (hl' : L2ok c.K r' g) (ha : EO c X a fa) (hb : EO c X b fb) (hd : EO c X d fd)
    (hm : lastMarks [op, op'] [b, d] = false := by with_unfolding_all rfl) : EO c X (.Compare a [op, op'] [b, d] pos) (sChain f g fa fb fd) :=
  ⟨pe_imp (pe_chain ho ho' ha.pe hb.pe hd.pe hm) fun _ _ _ h => ch_use hl hl' h fun _ _ => trivial⟩
theorem et_chain {a b d : Expr} {fa fb fd : SE} {op op' : CmpOp} {r r' : R2} {f g : PyData → PyData → Option PyData} (ho : OpR X (compareOp op) r) (ho' : OpR X (compareOp op') r') (hl : L2ok c.K r f) (hl' : L2ok c.K r' g) (ha : EO c X a fa) (hb : EO c X b fb) (hd : EO c X d fd)
    (hm : lastMarks [op, op'] [b, d] = false := by with_unfolding_all rfl) : ET c X (.Compare a [op, op'] [b, d] pos) (toT (sChain f g fa fb fd)) :=
  ⟨pt_imp (pt_chain ho ho' ha.pe hb.pe hd.pe hm) fun _ _ _ h => ch_use hl hl' (rT_toT h) fun _ _ => trivial⟩
end
end PD

/-! Plain data: the operations -/
namespace PD
open PySem PySem.Spec PyProof.Rows L2 GxR LG

theorem opr_or {X : Cx} {f : Value → Value → Sem Value} {r r' : R2} (h : OpR X f r) (h' : OpR X f r') : OpR X f (fun x y H Q => r x y H Q ∨ r' x y H Q) := by
  intro pins s σ H x y v u Q I rx ry q
  rcases q with q | q
  · exact h pins s σ H x y v u Q I rx ry q
  · exact h' pins s σ H x y v u Q I rx ry q
theorem callr_or {X : Cx} {f : Value} {r r' : List V → Hp → VK → Prop} (h : CallR X f r) (h' : CallR X f r') : CallR X f (fun xs H Q => r xs H Q ∨ r' xs H Q) := by
  intro pins s σ H xs us Q I rx q
  rcases q with q | q
  · exact h pins s σ H xs us Q I rx q
  · exact h' pins s σ H xs us Q I rx q

section
variable {X : Cx} {K : PySem.W.Frag}
/-! ### ints, and what is added -/
def fAdd : PyData → PyData → Option PyData
  | .int i, .int j => some (.int (i + j))
  | .tuple xs, .tuple ys => if xs.length + ys.length ≤ 1000000 then some (.tuple (xs ++ ys)) else none
  | .list xs, .list ys => if xs.length + ys.length ≤ 1000000 then some (.list (xs ++ ys)) else none
  | _, _ => none
theorem sqL_lst {F H : Hp} {x : V} {ds : List PyData} (h : Vw K F H x (.list ds)) (s : Same F H) (w : ∀ a vs, x = .ref a → SqL K H a vs → DpAll K F vs ds → H a = some (.lst vs) ∨ True) : True := trivial
/-- a list that is tracked as such -/
def Lst (H : Hp) : V → Prop
  | .ref a => ∃ vs, H a = some (.lst vs)
  | _ => False
def rAddA (K : PySem.W.Frag) : R2 := fun x y H Q => (rI0 fun i j => .int (i + j)) x y H Q ∨ rCatF K x y H Q
theorem op_addA : OpR X (binaryOp .Add) (rAddA X.K) := opr_or op_add op_catF
def fAddT : PyData → PyData → Option PyData
  | .int i, .int j => some (.int (i + j))
  | .tuple xs, .tuple ys => if xs.length + ys.length ≤ 1000000 then some (.tuple (xs ++ ys)) else none
  | _, _ => none
theorem l2_add : L2ok K (rAddA K) fAddT := by
  intro F H x y d e z Q s hx hy hf k
  unfold fAddT at hf
  split at hf
  · rename_i i j
    cases hf
    exact .inl ⟨i, j, hx.int, hy.int, k _ F H (Xt.refl s) (.int _)⟩
  · rename_i xs ys
    split at hf
    · rename_i hn
      cases hf
      obtain ⟨a, vs, rfl, ha, hva⟩ := hx.tup s
      obtain ⟨b, us, rfl, hb, hvb⟩ := hy.tup s
      refine .inr ⟨a, b, vs, us, rfl, rfl, ha, hb, by rw [dpAll_len hva, dpAll_len hvb]; exact size_line hn, fun e => ?_, fun e1 e2 => ?_, fun e1 e2 p ob hp hob => ?_⟩
      · subst e
        cases hva
        refine k _ F H (Xt.refl s) ?_
        rcases hy with hy | ⟨_, _, _, _, h, _⟩
        · exact hy
        · cases h
      · subst e2
        cases hvb
        refine k _ F H (Xt.refl s) ?_
        rw [List.append_nil]
        rcases hx with hx | ⟨_, _, _, _, h, _⟩
        · exact hx
        · cases h
      · exact k _ _ _ (Xt.new s hp hob) (dp_newT (s.free hp) (dpAll_app hva hvb))
    · cases hf
  · cases hf
def fSub : PyData → PyData → Option PyData
  | .int i, .int j => some (.int (i - j))
  | _, _ => none
theorem l2_sub : L2ok K (rI0 fun i j => .int (i - j)) fSub := by
  intro F H x y d e z Q s hx hy hf k
  unfold fSub at hf
  split at hf
  · cases hf
    exact ⟨_, _, hx.int, hy.int, k _ F H (Xt.refl s) (.int _)⟩
  · cases hf
def big : Nat := 18446744073709551616
def fMul : PyData → PyData → Option PyData
  | .int i, .int j => if i.natAbs < big ∨ j.natAbs < big ∨ i.natAbs.log2 + j.natAbs.log2 < 1000000 then some (.int (i * j)) else none
  | _, _ => none
def rMulB : R2 := fun x y H Q => (rI CMul fun i j => .int (i * j)) x y H Q ∨ (rI CMulW fun i j => .int (i * j)) x y H Q
theorem op_mulB : OpR X (binaryOp .Mult) rMulB := opr_or op_mul op_mulW
theorem l2_mul : L2ok K rMulB fMul := by
  intro F H x y d e z Q s hx hy hf k
  unfold fMul at hf
  split at hf
  · split at hf
    · rename_i hc
      cases hf
      rcases hc with hc | hc | hc
      · exact .inl ⟨_, _, hx.int, hy.int, (by unfold CMul; unfold big at hc; omega), k _ F H (Xt.refl s) (.int _)⟩
      · exact .inl ⟨_, _, hx.int, hy.int, (by unfold CMul; unfold big at hc; omega), k _ F H (Xt.refl s) (.int _)⟩
      · exact .inr ⟨_, _, hx.int, hy.int, hc, k _ F H (Xt.refl s) (.int _)⟩
    · cases hf
  · cases hf
def fDiv : PyData → PyData → Option PyData
  | .int i, .int j => if 0 < j ∧ (j.natAbs < 1073741824 ∨ j.natAbs.log2 < 9000) then some (.int (i / j)) else none
  | _, _ => none
def rDivB : R2 := fun x y H Q => (rI CDiv fun i j => .int (i / j)) x y H Q ∨ (rI CDivW fun i j => .int (i / j)) x y H Q
theorem op_fdivB : OpR X (binaryOp .FloorDiv) rDivB := opr_or op_fdiv op_fdivW
theorem l2_div : L2ok K rDivB fDiv := by
  intro F H x y d e z Q s hx hy hf k
  unfold fDiv at hf
  split at hf
  · split at hf
    · rename_i hc
      cases hf
      obtain ⟨h0, hc⟩ := hc
      rcases hc with hc | hc
      · exact .inl ⟨_, _, hx.int, hy.int, ⟨h0, by omega⟩, k _ F H (Xt.refl s) (.int _)⟩
      · exact .inr ⟨_, _, hx.int, hy.int, ⟨h0, hc⟩, k _ F H (Xt.refl s) (.int _)⟩
    · cases hf
  · cases hf
def fMod : PyData → PyData → Option PyData
  | .int i, .int j => if 0 < j then some (.int (i % j)) else none
  | _, _ => none
theorem l2_mod : L2ok K (rI (fun _ j => 0 < j) fun i j => .int (i % j)) fMod := by
  intro F H x y d e z Q s hx hy hf k
  unfold fMod at hf
  split at hf
  · split at hf
    · rename_i hc
      cases hf
      exact ⟨_, _, hx.int, hy.int, hc, k _ F H (Xt.refl s) (.int _)⟩
    · cases hf
  · cases hf
def fPow : PyData → PyData → Option PyData
  | .int i, .int j => if 0 ≤ j ∧ j.natAbs ≤ 1000000 ∧ i.natAbs < 18446744073709551616 then some (.int (i ^ j.toNat)) else none
  | _, _ => none
theorem l2_pow : L2ok K (rI CPow fun i j => .int (i ^ j.toNat)) fPow := by
  intro F H x y d e z Q s hx hy hf k
  unfold fPow at hf
  split at hf
  · split at hf
    · rename_i hc
      cases hf
      exact ⟨_, _, hx.int, hy.int, ⟨hc.1, by omega, hc.2.2⟩, k _ F H (Xt.refl s) (.int _)⟩
    · cases hf
  · cases hf
/-! ### comparisons -/
def fLt : PyData → PyData → Option PyData
  | .int i, .int j => some (.bool (decide (i < j)))
  | _, _ => none
def fLe : PyData → PyData → Option PyData
  | .int i, .int j => some (.bool (decide (i ≤ j)))
  | _, _ => none
def fGt : PyData → PyData → Option PyData
  | .int i, .int j => some (.bool (decide (j < i)))
  | _, _ => none
def fGe : PyData → PyData → Option PyData
  | .int i, .int j => some (.bool (decide (j ≤ i)))
  | _, _ => none
theorem l2_lt : L2ok K (rI0 fun i j => .bl (decide (i < j))) fLt := by
  intro F H x y d e z Q s hx hy hf k
  unfold fLt at hf
  split at hf
  · cases hf
    exact ⟨_, _, hx.int, hy.int, k _ F H (Xt.refl s) (.bl _)⟩
  · cases hf
theorem l2_le : L2ok K (rI0 fun i j => .bl (decide (i ≤ j))) fLe := by
  intro F H x y d e z Q s hx hy hf k
  unfold fLe at hf
  split at hf
  · cases hf
    exact ⟨_, _, hx.int, hy.int, k _ F H (Xt.refl s) (.bl _)⟩
  · cases hf
theorem l2_gt : L2ok K (rI0 fun i j => .bl (decide (j < i))) fGt := by
  intro F H x y d e z Q s hx hy hf k
  unfold fGt at hf
  split at hf
  · cases hf
    exact ⟨_, _, hx.int, hy.int, k _ F H (Xt.refl s) (.bl _)⟩
  · cases hf
theorem l2_ge : L2ok K (rI0 fun i j => .bl (decide (j ≤ i))) fGe := by
  intro F H x y d e z Q s hx hy hf k
  unfold fGe at hf
  split at hf
  · cases hf
    exact ⟨_, _, hx.int, hy.int, k _ F H (Xt.refl s) (.bl _)⟩
  · cases hf
def fEq (d e : PyData) : Option PyData := if SeqAt.shaped d && SeqAt.shaped e then some (.bool (PyData.eqv d e)) else none
def fNe (d e : PyData) : Option PyData := if SeqAt.shaped d && SeqAt.shaped e then some (.bool (!PyData.eqv d e)) else none
theorem l2_eq : L2ok K (rEqD K) fEq := by
  intro F H x y d e z Q s hx hy hf k
  unfold fEq at hf
  split at hf
  · rename_i hc
    cases hf
    have hc := Bool.and_eq_true_iff.mp hc
    exact ⟨d, e, hx.dp s, hy.dp s, hc.1, hc.2, k _ F H (Xt.refl s) (.bl _)⟩
  · cases hf
theorem l2_ne : L2ok K (rNeD K) fNe := by
  intro F H x y d e z Q s hx hy hf k
  unfold fNe at hf
  split at hf
  · rename_i hc
    cases hf
    have hc := Bool.and_eq_true_iff.mp hc
    exact ⟨d, e, hx.dp s, hy.dp s, hc.1, hc.2, k _ F H (Xt.refl s) (.bl _)⟩
  · cases hf
/-- in a list of data, or in a tuple (list) of flat things -/
def flatD : PyData → Bool
  | .none => true
  | .bool _ => true
  | .int _ => true
  | .str _ => true
  | _ => false
def fIn : PyData → PyData → Option PyData
  | d, .list ds => if SeqAt.shaped d && SeqAt.shaped (.list ds) then some (.bool (ds.any fun z => PyData.eqv z d)) else none
  | d, .tuple ds => if flatD d && ds.all flatD then some (.bool (ds.any fun z => PyData.eqv z d)) else none
  | _, _ => none
def fNotIn : PyData → PyData → Option PyData
  | d, .list ds => if SeqAt.shaped d && SeqAt.shaped (.list ds) then some (.bool (!ds.any fun z => PyData.eqv z d)) else none
  | d, .tuple ds => if flatD d && ds.all flatD then some (.bool (!ds.any fun z => PyData.eqv z d)) else none
  | _, _ => none
def rInA (K : PySem.W.Frag) (neg : Bool) : R2 := fun x y H Q => (if neg then rNotInD K else rInD K) x y H Q ∨ rIn K neg x y H Q
theorem op_inA (hu : X.A.units + 65 < cLine) : OpR X (compareOp .In) (rInA X.K false) := opr_or (op_inD hu) op_in_seq
theorem op_notInA (hu : X.A.units + 65 < cLine) : OpR X (compareOp .NotIn) (rInA X.K true) := opr_or (op_notInD hu) op_notIn_seq
theorem flat_dp {F : Hp} {v : V} {d : PyData} (h : Dp K F v d) (f : flatD d = true) : flatV v = true ∧ ∀ {w : V} {e : PyData}, Dp K F w e → flatD e = true → eqV v w = PyData.eqv d e := by
  cases h with
  | non => exact ⟨rfl, fun h g => by cases h <;> first | rfl | cases g⟩
  | bl b => exact ⟨rfl, fun h g => by cases h <;> first | rfl | cases g⟩
  | int i => exact ⟨rfl, fun h g => by cases h <;> first | rfl | cases g⟩
  | str x => exact ⟨rfl, fun h g => by cases h <;> first | rfl | cases g⟩
  | lst _ _ => cases f
  | tup _ _ => cases f
theorem flat_all {F : Hp} {v : V} {d : PyData} (h : Dp K F v d) (f : flatD d = true) : ∀ {vs : List V} {ds : List PyData}, DpAll K F vs ds → ds.all flatD = true → vs.all flatV = true ∧ inV v vs = ds.any fun z => PyData.eqv z d
  | _, _, .nil, _ => ⟨rfl, rfl⟩
  | _, _, .cons a b, g => by
    rw [List.all_cons, Bool.and_eq_true] at g
    obtain ⟨h1, h2⟩ := flat_all h f b g.2
    refine ⟨by rw [List.all_cons, (flat_dp a g.1).1, h1]; rfl, ?_⟩
    unfold inV at h2 ⊢
    rw [List.any_cons, List.any_cons, h2, (flat_dp a g.1).2 h f]
theorem Vw.flat {F H : Hp} {x : V} {d : PyData} (h : Vw K F H x d) (f : flatD d = true) : Dp K F x d := by
  rcases h with h | ⟨_, _, _, _, e, _⟩
  · exact h
  · rw [e] at f
    cases f
theorem l2_in : L2ok K (rInA K false) fIn := by
  intro F H x y d e z Q s hx hy hf k
  unfold fIn at hf
  split at hf
  · rename_i ds
    split at hf
    · rename_i hc
      cases hf
      have hc := Bool.and_eq_true_iff.mp hc
      exact .inl ⟨d, ds, hx.dp s, hy.dp s, hc.1, hc.2, k _ F H (Xt.refl s) (.bl _)⟩
    · cases hf
  · rename_i ds
    split at hf
    · rename_i hc
      cases hf
      have hc := Bool.and_eq_true_iff.mp hc
      obtain ⟨a, vs, rfl, ha, hva⟩ := hy.tup s
      have dx := hx.flat hc.1
      obtain ⟨h1, h2⟩ := flat_all dx hc.1 hva hc.2
      refine .inr ⟨a, vs, rfl, .inr ha, (flat_dp dx hc.1).1, h1, ?_⟩
      rw [h2]
      exact k _ F H (Xt.refl s) (.bl _)
    · cases hf
  · cases hf
theorem l2_notIn : L2ok K (rInA K true) fNotIn := by
  intro F H x y d e z Q s hx hy hf k
  unfold fNotIn at hf
  split at hf
  · rename_i ds
    split at hf
    · rename_i hc
      cases hf
      have hc := Bool.and_eq_true_iff.mp hc
      exact .inl ⟨d, ds, hx.dp s, hy.dp s, hc.1, hc.2, k _ F H (Xt.refl s) (.bl _)⟩
    · cases hf
  · rename_i ds
    split at hf
    · rename_i hc
      cases hf
      have hc := Bool.and_eq_true_iff.mp hc
      obtain ⟨a, vs, rfl, ha, hva⟩ := hy.tup s
      have dx := hx.flat hc.1
      obtain ⟨h1, h2⟩ := flat_all dx hc.1 hva hc.2
      refine .inr ⟨a, vs, rfl, .inr ha, (flat_dp dx hc.1).1, h1, ?_⟩
      rw [h2]
      exact k _ F H (Xt.refl s) (.bl _)
    · cases hf
  · cases hf
/-! ### is -/
def rIsA : R2 := fun x y H Q => (y = .non ∧ Q (.bl (decide (x = .non))) H) ∨ rIsB x y H Q
def rIsNotA : R2 := fun x y H Q => (y = .non ∧ Q (.bl (!decide (x = .non))) H) ∨ rNotB x y H Q
theorem op_isA : OpR X (compareOp .Is) rIsA := opr_or op_isN op_isBl
theorem op_isNotA : OpR X (compareOp .IsNot) rIsNotA := opr_or op_notN op_notBl
def isNone : PyData → Bool
  | .none => true
  | _ => false
def fIs : PyData → PyData → Option PyData
  | d, .none => some (.bool (isNone d))
  | .bool a, .bool b => some (.bool (decide (a = b)))
  | _, _ => none
def fIsNot : PyData → PyData → Option PyData
  | d, .none => some (.bool (!isNone d))
  | .bool a, .bool b => some (.bool (!decide (a = b)))
  | _, _ => none
theorem non_dec {F H : Hp} {x : V} {d : PyData} (h : Vw K F H x d) : decide (x = .non) = isNone d := by
  rcases h with h | ⟨_, _, _, rfl, rfl, _⟩
  · cases h <;> rfl
  · rfl
theorem Vw.non {F H : Hp} {x : V} (h : Vw K F H x .none) : x = .non := by
  rcases h with h | ⟨_, _, _, rfl, e, _⟩
  · cases h
    rfl
  · cases e
theorem l2_is : L2ok K rIsA fIs := by
  intro F H x y d e z Q s hx hy hf k
  unfold fIs at hf
  split at hf
  · cases hf
    refine .inl ⟨hy.non, ?_⟩
    rw [non_dec hx]
    exact k _ F H (Xt.refl s) (.bl _)
  · cases hf
    exact .inr ⟨_, _, hx.bool, hy.bool, k _ F H (Xt.refl s) (.bl _)⟩
  · cases hf
theorem l2_isNot : L2ok K rIsNotA fIsNot := by
  intro F H x y d e z Q s hx hy hf k
  unfold fIsNot at hf
  split at hf
  · cases hf
    refine .inl ⟨hy.non, ?_⟩
    rw [non_dec hx]
    exact k _ F H (Xt.refl s) (.bl _)
  · cases hf
    exact .inr ⟨_, _, hx.bool, hy.bool, k _ F H (Xt.refl s) (.bl _)⟩
  · cases hf
/-! ### items, slices -/
def fIx : PyData → PyData → Option PyData
  | .list ds, .int i => atI ds i
  | .tuple ds, .int i => atI ds i
  | _, _ => none
theorem atI_dp {F : Hp} {vs : List V} {ds : List PyData} {i : Int} {z : PyData} (h : DpAll K F vs ds) (e : atI ds i = some z) : ∃ v, atI vs i = some v ∧ Dp K F v z := by
  unfold atI at e ⊢
  rw [dpAll_len h]
  cases q : ixN ds.length i with
  | none => rw [q] at e; cases e
  | some j =>
    rw [q] at e
    exact dpAll_at h e
theorem l2_ix : L2ok K (rIx K) fIx := by
  intro F H x y d e z Q s hx hy hf k
  unfold fIx at hf
  split at hf
  · obtain ⟨a, vs, rfl, ha, hva⟩ := hx.list s
    obtain ⟨v, e1, e2⟩ := atI_dp hva hf
    exact .inl ⟨a, vs, _, v, rfl, hy.int, ha, e1, k _ F H (Xt.refl s) e2⟩
  · obtain ⟨a, vs, rfl, ha, hva⟩ := hx.tup s
    obtain ⟨v, e1, e2⟩ := atI_dp hva hf
    exact .inr (.inl ⟨a, vs, _, v, rfl, hy.int, ha, e1, k _ F H (Xt.refl s) e2⟩)
  · cases hf
end
end PD

/-! enumerate of a tuple -/
namespace ENT
open PySem PySem.Spec PyProof.Rows L2
open AutoSeq1 (wpAny_loadPart')
theorem meets_new (l : Addr) (items : Array Value) (n : Nat) (dct : Option Addr) (sl : Array (Option Value)) :
    Meets (Builtin.«enumerate.__new__» ⟨[.type "enumerate", .ref l], []⟩) (fun _ R s => s.heap.get? l = some { cls := .type "tuple", dict := dct, data := .seq items n, slots := sl } ∧
      R (.ok (.ret (.ref (s.heap.push { cls := .type "tuple_iterator", data := .fields #[.ref l, .int 0 0] }).objs.size)))
        { s with heap := (s.heap.push { cls := .type "tuple_iterator", data := .fields #[.ref l, .int 0 0] }).push { cls := .type "enumerate", data := .fields #[.none, .bool false, .ref s.heap.objs.size, rawInt 0, .none, .none] } }) :=
  .of_wp fun prog w A R s h => by
    obtain ⟨hp, g, d, tk, os⟩ := s
    obtain ⟨ht, h⟩ := h
    have hsub := sub_enumerate
    have hT : Heap.IsTuple (Shared.heap ⟨hp, g, d, tk, os⟩) l items := ⟨_, ht, rfl, n, rfl⟩
    wp_walk using wpAny_loadPart' ht
    refine wpAny_stack_any fun st => wpAny_pure ?_
    split
    · rename_i c _ _ _ _ _
      cases hc : (c == Value.type "enumerate")
      · wp_walk using wpAny_loadPart' ht, wpAny_pyIter_tuple hT
        exact ⟨_, rfl, h⟩
      · wp_walk using wpAny_loadPart' ht, wpAny_pyIter_tuple hT
        exact ⟨_, rfl, h⟩
    · wp_walk using wpAny_loadPart' ht, wpAny_pyIter_tuple hT
      exact ⟨_, rfl, h⟩
section
variable {prog : Program} {w : World} {A : Around} {E : Value → Shared → Prop} {s : Shared}
theorem call_tup {l : Addr} {items : Array Value} {Q : Value → Shared → Prop} (hT : s.heap.IsTuple l items)
    (h : ∀ h', IsEnum h' (s.heap.objs.size + 1) s.heap.objs.size 0 .none → h'.IsTupleIter s.heap.objs.size l 0 →
      (∀ b o, s.heap.get? b = some o → h'.get? b = some o) → Q (.ref (s.heap.objs.size + 1)) { s with heap := h' }) :
    wpAny (model prog w) A (call (.type "enumerate") [.ref l]) Q E s := by
  obtain ⟨⟨c, dct, dt, sl⟩, hl, hc, n, hd⟩ := hT
  replace hc : c = .type "tuple" := hc
  replace hd : dt = .seq items n := hd
  subst hc hd
  refine callType_new F.called_enumerate (by decide) (F.typeCall_enumerate_1 _) (F.newCall_enumerate_1 _) (fun obj => F.args_object_init_2 obj _) F.entry_enumerate_new
    (meets_new l items n dct sl) ⟨hl, ?_⟩
  generalize hi : ({ cls := .type "tuple_iterator", data := .fields #[.ref l, .int 0 0] } : Obj) = oi
  generalize he : ({ cls := .type "enumerate", data := .fields #[.none, .bool false, .ref s.heap.objs.size, rawInt 0, .none, .none] } : Obj) = oe
  have hz : (s.heap.push oi).objs.size = s.heap.objs.size + 1 := Heap.size_push ..
  show _ ∧ _
  rw [hz]
  have eI : ((s.heap.push oi).push oe).get? (s.heap.objs.size + 1) = some oe := by
    have := Heap.get?_push_size (s.heap.push oi) (o := oe) (by rw [← he]; rfl)
    rw [hz] at this
    exact this
  have iI : ((s.heap.push oi).push oe).get? s.heap.objs.size = some oi := Heap.get?_push_of_some _ (Heap.get?_push_size _ (by rw [← hi]; rfl))
  have hE : IsEnum ((s.heap.push oi).push oe) (s.heap.objs.size + 1) s.heap.objs.size 0 .none := by
    show _ = _
    rw [eI, ← he]
  have hI : ((s.heap.push oi).push oe).IsTupleIter s.heap.objs.size l 0 := ⟨oi, iI, by rw [← hi], by rw [← hi]; rfl⟩
  exact ⟨⟨_, hE, rfl⟩, h _ hE hI fun b o x => Heap.get?_push_of_some _ (Heap.get?_push_of_some _ x)⟩
end
/-- the tuple at a, each item in a new pair -/
def IteT (K : PySem.W.Frag) (a : Addr) : It :=
  ⟨fun i H => ∃ (xs : List V) (x : V), SqT K H a xs ∧ xs[i]? = some x, fun i H v H' => ∃ T x ob, v = .ref T ∧ H T = none ∧ PD.PlT ob ∧ H' = upd H T (.frz ob (.tup [.int (i : Nat), x])) ∧ ∀ xs, SqT K H a xs → xs[i]? = some x, fun i H => ∃ xs : List V, SqT K H a xs ∧ xs.length ≤ i⟩
/-- the list at a, each item in a new pair -/
def IteL (K : PySem.W.Frag) (a : Addr) : It :=
  ⟨fun i H => ∃ (ys : List V) (y : V), SqL K H a ys ∧ ys[i]? = some y, fun i H v H' => ∃ T y ob, v = .ref T ∧ H T = none ∧ PD.PlT ob ∧ H' = upd H T (.frz ob (.tup [.int (i : Nat), y])) ∧ ∀ ys, SqL K H a ys → ys[i]? = some y, fun i H => ∃ ys : List V, SqL K H a ys ∧ ys.length ≤ i⟩
theorem turn {P : Program} {w : World} {K : PySem.W.Frag} {elts : List Expr} {kk : Nat} {tpos : Pos} (a e it : Addr) (hai : a ≠ it) (hae : a ≠ e) :
    Turn P w K (.Tuple elts kk tpos) (IteT K a) [e, it] e (fun i h => (∃ old, IsEnum h e it ((i : Nat) : Int) old) ∧ h.IsTupleIter it a i ∧ e ≠ it) where
  mem := by simp
  obj := fun i h st b hb => by
    obtain ⟨⟨old, he⟩, ⟨o, ho, hc, hd⟩, _⟩ := st
    rcases (show b = e ∨ b = it by simpa using hb) with z | z
    · rw [z]
      exact ⟨_, he, fun v q => nomatch q⟩
    · rw [z]
      exact ⟨o, ho, fun v q => by
        rw [hd] at q
        cases q⟩
  keep := fun i h h' st k => by
    obtain ⟨⟨old, he⟩, hi, hne⟩ := st
    exact ⟨⟨old, k e (by simp) _ he⟩, hi.at fun o q => k it (by simp) o q, hne⟩
  item := by
    intro X hP hw hK hc i pins s σ H E I hf st hg
    subst hP hw hK
    obtain ⟨⟨old, he⟩, hit, hne⟩ := st
    obtain ⟨xs, x, hq, hx⟩ := hg
    obtain ⟨its, rv, p, hz⟩ := I.tuple hq
    have p : s.heap.IsTuple a its.toArray := p
    obtain ⟨u, hu, ru⟩ := rv.get hx
    have hel : e < s.heap.objs.size := Heap.lt_size he
    have hil : it < s.heap.objs.size := by
      obtain ⟨_, q, _⟩ := hit
      exact Heap.lt_size q
    have ex : its.toArray[i]? = some u := by simpa using hu
    have lt : i < its.toArray.size := (Array.getElem?_eq_some_iff.mp ex).1
    refine wpAny_pyNext_enum_itemD (Draws.tuple (A := X.A.in1) (I.ok.hd hc) it a hai its.toArray) he ⟨hit, p⟩ lt hne (by simp only [List.mem_cons, List.not_mem_nil, or_false, not_or]; exact ⟨hne, fun z => hae z.symm⟩) fun y h' tk hy ho hst' hT hsz hk => ?_
    have ey : y = u := by
      have : its.toArray[i]? = some y := hy
      rw [ex] at this
      exact (Option.some.inj this).symm
    subst ey
    refine ⟨_, rfl, wpAny_letOwnedTupleGo_enum (s := { s with heap := h', toks := tk + 1 }) ho fun h'' he' sb => ?_⟩
    have hT2 : h''.get? s.heap.objs.size = some { cls := .type "tuple", data := .seq #[.int i tk, y] } := (sb.2 _ (Nat.ne_of_gt hel)).trans hT
    let ob : Obj := { cls := .type "tuple", data := .seq #[.int i tk, y] }
    let cell : HO := .frz ob (.tup [.int (i : Nat), x])
    have new : ObjOk X.prog X.w (upd H s.heap.objs.size cell) h'' s.heap.objs.size cell :=
      ⟨hT2, by show 2 ≤ sizeLine; decide, [.int i tk, y], .cons ⟨_, rfl⟩ (.cons ru .nil), ⟨_, hT2, rfl, _, rfl⟩⟩
    have I1 : Inv X pins σ (upd H s.heap.objs.size cell) { s with heap := h'', toks := tk + 1 } :=
      I.turnedNew (ch := [e, it]) (fun b ob hb q => (sb.2 b (fun z => hb (by simp [z]))).trans (hk b ob (fun z => hb (by simp [z])) (fun z => hb (by simp [z])) q)) hf (Nat.le_refl _) new
    refine ⟨.ref s.heap.objs.size, _, I1, rfl, ⟨_, x, ob, rfl, I.hok.fresh (Nat.le_refl _), ⟨rfl, rfl⟩, rfl, fun ys hy => by rw [I.tuple_inj hy hq]; exact hx⟩, ⟨⟨y, ?_⟩, hst'.1.at fun o q => (sb.2 it (Ne.symm hne)).trans q, hne⟩, fun b hb => ?_⟩
    · have e1 : ((i + 1 : Nat) : Int) = (i : Int) + 1 := by omega
      rw [e1]
      exact he'
    · have hb' : b < s.heap.objs.size := by
        rcases (show b = e ∨ b = it by simpa using hb) with z | z
        · rw [z]; exact hel
        · rw [z]; exact hil
      rw [upd_ne (Nat.ne_of_lt hb')]
      exact (hf b hb).1
  done := by
    intro X hP hw hK hc i pins s σ H E I hf st hg
    subst hP hw hK
    obtain ⟨⟨old, he⟩, hit, hne⟩ := st
    obtain ⟨xs, hq, hx⟩ := hg
    obtain ⟨its, rv, p, hz⟩ := I.tuple hq
    have p : s.heap.IsTuple a its.toArray := p
    obtain ⟨f0, f1, f2, f3, f4, f5⟩ := hf it (by simp)
    have hl := rv.length
    have hT : s.TypeIs (.ref e) "enumerate" := ⟨_, he, rfl⟩
    unfold pyNext
    refine wpAny_bind (wpAny_attempt (wpAny_callSpecial?_slot (name := Str.ofString "__next__") hT F.slot_enumerate_next
      (wpAny_call_entry F.slot_enumerate_next hT F.entry_enumerate_next ?_ (F.args_enumerate_next_1 _))))
    show wpAny _ _ (field (.ref e) 2 >>= _) _ _ _
    refine wpAny_bind (wpAny_field he rfl (x := .ref it) rfl ?_)
    refine wpAny_bind (wpAny_nextOf_tuple_end (I.ok.hd hc) hit p (by simp; omega) fun h' x he' hx' => ?_)
    obtain ⟨o, ho, hc'⟩ := hx'
    refine wpAny_bind (wpAny_isInstance (T := "StopIteration") (b := true) ⟨o, ho, hc'⟩ isSubtype_stop ?_)
    exact wpAny_pure ⟨rfl, I.turned (t' := s.toks) (fun b o hb q => he' b o hb q) f0 f1 f3 f4 f5⟩
  self := fun A i s Q E st h => by
    obtain ⟨⟨_, he⟩, _⟩ := st
    exact wpAny_pyIter_enum he h
def iEnumT (K : PySem.W.Frag) (ta : TA) : TI := fun σ H R => ta σ H fun vs H1 => ∃ a xs, vs = [.ref a] ∧ SqT K H1 a xs ∧ R (IteT K a) H1
theorem pi_enumT {X : Cx} {e : Expr} {ta : TA} {p pos tpos : Pos} {elts : List Expr} {kk : Nat} (hg : Gl X "enumerate") (hm : X.mg "enumerate" = none) (ha : PA X [e] ta) (hs : starEach [e] X.env = [(false, eval e X.env)] := by rfl) :
    PI X (.Tuple elts kk tpos) (.Call (.Name "enumerate" p) [e] [] pos) (iEnumT X.K ta) := by
  refine ⟨fun pins s σ H R I h => ?_⟩
  refine Call_ (ld_blt I hg hm boot_enumerate (PyProof.Rows.callWith_type1 (thn (ha.run pos pins s σ H _ I h) fun us s1 ⟨vs, H1, I1, r1, q1⟩ => ?_) hs rfl))
  obtain ⟨a, xs, ex, hq, q⟩ := q1
  subst ex
  cases r1 with
  | cons r rr =>
    cases rr
    cases r
    obtain ⟨its, rv, p', hz⟩ := I1.tuple hq
    have p' : s1.heap.IsTuple a its.toArray := p'
    have lt : a < s1.heap.objs.size := by
      obtain ⟨o, z, _⟩ := id p'
      exact Heap.lt_size z
    refine call_tup p' fun h' he hit hk => wpAny_pyIter_enum he ?_
    have I2 : Inv X pins σ H1 { s1 with heap := h' } := I1.kept (t' := s1.toks) hk
    refine ⟨s1.heap.objs.size + 1, [s1.heap.objs.size + 1, s1.heap.objs.size], _, _, H1, rfl, I2, turn a (s1.heap.objs.size + 1) s1.heap.objs.size (Nat.ne_of_lt lt) (Nat.ne_of_lt (Nat.lt_succ_of_lt lt)), ⟨⟨.none, he⟩, hit, Nat.succ_ne_self _⟩, fun b hb => ?_, q⟩
    have hle : s1.heap.objs.size ≤ b := by
      rcases (show b = s1.heap.objs.size + 1 ∨ b = s1.heap.objs.size by simpa using hb) with z | z
      · rw [z]; exact Nat.le_add_right _ _
      · rw [z]; exact Nat.le_refl _
    exact I1.fpOk hle (I1.hok.fresh hle)
/-- .. of a list -/
theorem turnL {P : Program} {w : World} {K : PySem.W.Frag} {elts : List Expr} {kk : Nat} {tpos : Pos} (a e it : Addr) (hai : a ≠ it) (hae : a ≠ e) :
    Turn P w K (.Tuple elts kk tpos) (IteL K a) [e, it] e (fun i h => (∃ old, IsEnum h e it ((i : Nat) : Int) old) ∧ h.IsListIter it a i ∧ e ≠ it) where
  mem := by simp
  obj := fun i h stt b hb => by
    obtain ⟨⟨old, hen⟩, ⟨o, ho, hc, hd⟩, _⟩ := stt
    rcases (show b = e ∨ b = it by simpa using hb) with z | z
    · rw [z]
      exact ⟨_, hen, fun v q => nomatch q⟩
    · rw [z]
      exact ⟨o, ho, fun v q => by
        rw [hd] at q
        cases q⟩
  keep := fun i h h' stt k => by
    obtain ⟨⟨old, hen⟩, hi, hne⟩ := stt
    exact ⟨⟨old, k e (by simp) _ hen⟩, hi.at fun o q => k it (by simp) o q, hne⟩
  item := by
    intro X hP hw hK hc i pins s σ H E I hf stt hg
    subst hP hw hK
    obtain ⟨⟨old, hen⟩, hit, hne⟩ := stt
    obtain ⟨ws, y, hsq, hgy⟩ := hg
    obtain ⟨vals, rvs, pl, _⟩ := I.list hsq
    obtain ⟨u, hu, ru⟩ := rvs.get hgy
    have enl : e < s.heap.objs.size := Heap.lt_size hen
    have itl : it < s.heap.objs.size := by
      obtain ⟨_, q, _⟩ := hit
      exact Heap.lt_size q
    have ex : vals.toArray[i]? = some u := by simpa using hu
    have lt : i < vals.toArray.size := (Array.getElem?_eq_some_iff.mp ex).1
    refine wpAny_pyNext_enum_itemD (Draws.list (A := X.A.in1) (I.ok.hd hc) it a hai vals.toArray) hen ⟨hit, pl.isList⟩ lt hne (by simp only [List.mem_cons, List.not_mem_nil, or_false, not_or]; exact ⟨hne, fun z => hae z.symm⟩) fun z h' tk hz ho hst' hT hsz hk => ?_
    have ez : z = u := by
      have : vals.toArray[i]? = some z := hz
      rw [ex] at this
      exact (Option.some.inj this).symm
    subst ez
    refine ⟨_, rfl, wpAny_letOwnedTupleGo_enum (s := { s with heap := h', toks := tk + 1 }) ho fun h2 hen' sb => ?_⟩
    let ob : Obj := { cls := .type "tuple", data := .seq #[.int i tk, z] }
    let cell : HO := .frz ob (.tup [.int (i : Nat), y])
    have at2 : h2.get? s.heap.objs.size = some ob := (sb.2 _ (Nat.ne_of_gt enl)).trans hT
    have new : ObjOk X.prog X.w (upd H s.heap.objs.size cell) h2 s.heap.objs.size cell :=
      ⟨at2, by show 2 ≤ sizeLine; decide, [.int i tk, z], .cons ⟨_, rfl⟩ (.cons ru .nil), ⟨_, at2, rfl, _, rfl⟩⟩
    have I1 : Inv X pins σ (upd H s.heap.objs.size cell) { s with heap := h2, toks := tk + 1 } :=
      I.turnedNew (ch := [e, it]) (fun b ob hb q => (sb.2 b (fun z => hb (by simp [z]))).trans (hk b ob (fun z => hb (by simp [z])) (fun z => hb (by simp [z])) q)) hf (Nat.le_refl _) new
    refine ⟨.ref s.heap.objs.size, _, I1, rfl, ⟨_, y, ob, rfl, I.hok.fresh (Nat.le_refl _), ⟨rfl, rfl⟩, rfl, fun ys hy => by rw [I.list_inj hy hsq]; exact hgy⟩, ⟨⟨z, ?_⟩, hst'.1.at fun o q => (sb.2 it (Ne.symm hne)).trans q, hne⟩, fun b hb => ?_⟩
    · rw [show ((i + 1 : Nat) : Int) = (i : Int) + 1 by omega]
      exact hen'
    · have below : b < s.heap.objs.size := by
        rcases (show b = e ∨ b = it by simpa using hb) with z | z
        · rw [z]; exact enl
        · rw [z]; exact itl
      rw [upd_ne (Nat.ne_of_lt below)]
      exact (hf b hb).1
  done := by
    intro X hP hw hK hc i pins s σ H E I hf stt hg
    subst hP hw hK
    obtain ⟨⟨old, hen⟩, hit, hne⟩ := stt
    obtain ⟨ws, hsq, hle⟩ := hg
    obtain ⟨vals, rvs, pl, _⟩ := I.list hsq
    obtain ⟨f0, f1, f2, f3, f4, f5⟩ := hf it (by simp)
    have hl := rvs.length
    exact wpAny_pyNext_enum_end (I.ok.hd hc) hen hit pl.isList (by simp; omega) fun h2 eb => ⟨rfl, I.turned (t' := s.toks) (fun b o hb q => eb b o hb q) f0 f1 f3 f4 f5⟩
  self := fun A i s Q E stt h => by
    obtain ⟨⟨_, hen⟩, _⟩ := stt
    exact wpAny_pyIter_enum hen h
def iEnumL (K : PySem.W.Frag) (ta : TA) : TI := fun σ H R => ta σ H fun vs H1 => ∃ a ys, vs = [.ref a] ∧ SqL K H1 a ys ∧ R (IteL K a) H1
theorem pi_enumL {X : Cx} {e : Expr} {ta : TA} {p pos tpos : Pos} {elts : List Expr} {kk : Nat} (hg : Gl X "enumerate") (hm : X.mg "enumerate" = none) (ha : PA X [e] ta) (hs : starEach [e] X.env = [(false, eval e X.env)] := by rfl) :
    PI X (.Tuple elts kk tpos) (.Call (.Name "enumerate" p) [e] [] pos) (iEnumL X.K ta) := by
  refine ⟨fun pins s σ H R I h => ?_⟩
  refine Call_ (ld_blt I hg hm boot_enumerate (PyProof.Rows.callWith_type1 (thn (ha.run pos pins s σ H _ I h) fun us s1 ⟨vs, H1, I1, r1, q1⟩ => ?_) hs rfl))
  obtain ⟨a, ys, eq, hsq, q⟩ := q1
  subst eq
  cases r1 with
  | cons r rr =>
    cases rr
    cases r
    obtain ⟨vals, rvs, pl, _⟩ := I1.list hsq
    have lt : a < s1.heap.objs.size := by
      obtain ⟨o, n, z, _⟩ := id pl
      exact Heap.lt_size z
    refine call_enumerate_list pl.isList fun h' hen hit hsz hk => wpAny_pyIter_enum hen ?_
    have I2 : Inv X pins σ H1 { s1 with heap := h' } := I1.kept (t' := s1.toks) hk
    refine ⟨s1.heap.objs.size + 1, [s1.heap.objs.size + 1, s1.heap.objs.size], _, _, H1, rfl, I2, turnL a (s1.heap.objs.size + 1) s1.heap.objs.size (Nat.ne_of_lt lt) (Nat.ne_of_lt (Nat.lt_succ_of_lt lt)), ⟨⟨.none, hen⟩, hit, Nat.succ_ne_self _⟩, fun b hb => ?_, q⟩
    have hle : s1.heap.objs.size ≤ b := by
      rcases (show b = s1.heap.objs.size + 1 ∨ b = s1.heap.objs.size by simpa using hb) with z | z
      · rw [z]; exact Nat.le_add_right _ _
      · rw [z]; exact Nat.le_refl _
    exact I1.fpOk hle (I1.hok.fresh hle)
end ENT

/-! Plain data: built-ins, slices, enumerate -/
namespace PD
open PySem PySem.Spec PyProof.Rows L2 GxR LG

section
variable {c : Co} {X : Cx} {K : PySem.W.Frag} {e : Expr} {es : List Expr} {pos : Pos}
theorem vw1 {F H : Hp} {vs : List V} {d : PyData} (h : VwAll K F H vs [d]) : ∃ v, vs = [v] ∧ Vw K F H v d := by
  match vs, h with
  | [v], ⟨h, _⟩ => exact ⟨v, rfl, h⟩
theorem vw2 {F H : Hp} {vs : List V} {d e : PyData} (h : VwAll K F H vs [d, e]) : ∃ v u, vs = [v, u] ∧ Vw K F H v d ∧ Vw K F H u e := by
  match vs, h with
  | [v, u], ⟨h, h', _⟩ => exact ⟨v, u, rfl, h, h'⟩
/-! ### len, sum, min, max, tuple, list, int, abs, divmod -/
def fLen : List PyData → Option PyData
  | [.list ds] => some (.int ds.length)
  | [.tuple ds] => some (.int ds.length)
  | _ => none
theorem ln_len : LNok K (fun xs H Q => ∃ p ys, xs = [.ref p] ∧ (SqL K H p ys ∨ SqT K H p ys) ∧ Q (.int ys.length) H) fLen := by
  intro F H vs ds z Q s hv hf k
  unfold fLen at hf
  split at hf
  · cases hf
    obtain ⟨v, rfl, h⟩ := vw1 hv
    obtain ⟨a, us, rfl, ha, hd⟩ := h.list s
    refine ⟨a, us, rfl, .inl ha, ?_⟩
    rw [dpAll_len hd]
    exact k _ F H (Xt.refl s) (.int _)
  · cases hf
    obtain ⟨v, rfl, h⟩ := vw1 hv
    obtain ⟨a, us, rfl, ha, hd⟩ := h.tup s
    refine ⟨a, us, rfl, .inr ha, ?_⟩
    rw [dpAll_len hd]
    exact k _ F H (Xt.refl s) (.int _)
  · cases hf
def fTupOf : List PyData → Option PyData
  | [.list ds] => some (.tuple ds)
  | [.tuple ds] => some (.tuple ds)
  | _ => none
theorem ln_tup : LNok K (rTupF K) fTupOf := by
  intro F H vs ds z Q s hv hf k
  unfold fTupOf at hf
  split at hf
  · cases hf
    obtain ⟨v, rfl, h⟩ := vw1 hv
    obtain ⟨a, us, rfl, ha, hd⟩ := h.list s
    exact ⟨a, us, rfl, .inl ⟨ha, fun p ob hp hob => k _ _ _ (Xt.new s hp hob) (dp_newT (s.free hp) hd)⟩⟩
  · cases hf
    obtain ⟨v, rfl, h⟩ := vw1 hv
    have h0 := h
    obtain ⟨a, us, rfl, ha, hd⟩ := h.tup s
    refine ⟨a, us, rfl, .inr ⟨ha, k _ F H (Xt.refl s) ?_⟩⟩
    rcases h0 with h0 | ⟨_, _, _, _, q, _⟩
    · exact h0
    · cases q
  · cases hf
def fListOf : List PyData → Option (List PyData)
  | [.list ds] => some ds
  | [.tuple ds] => some ds
  | _ => none
theorem lf_list : LFok K (fun xs H Q => ∃ p ys, xs = [.ref p] ∧ (SqL K H p ys ∨ SqT K H p ys) ∧ ∀ l, H l = none → Q (.ref l) (upd H l (.lst ys))) fListOf := by
  intro F H vs ds z Q s hv hf k
  unfold fListOf at hf
  split at hf
  · cases hf
    obtain ⟨v, rfl, h⟩ := vw1 hv
    obtain ⟨a, us, rfl, ha, hd⟩ := h.list s
    exact ⟨a, us, rfl, .inl ha, fun p hp => k p us hp hd⟩
  · cases hf
    obtain ⟨v, rfl, h⟩ := vw1 hv
    obtain ⟨a, us, rfl, ha, hd⟩ := h.tup s
    exact ⟨a, us, rfl, .inr ha, fun p hp => k p us hp hd⟩
  · cases hf
def intsOf : List PyData → Option (List Int)
  | [] => some []
  | .int i :: r => (intsOf r).map (i :: ·)
  | _ => none
theorem intsOf_eq : ∀ {ds : List PyData} {ns : List Int}, intsOf ds = some ns → ds = ns.map PyData.int
  | [], _, e => by cases e; rfl
  | .int i :: r, ns, e => by
    simp only [intsOf, Option.map_eq_some_iff] at e
    obtain ⟨m, e1, rfl⟩ := e
    rw [intsOf_eq e1]
    rfl
  | .none :: _, _, e => by cases e
  | .bool _ :: _, _, e => by cases e
  | .str _ :: _, _, e => by cases e
  | .list _ :: _, _, e => by cases e
  | .tuple _ :: _, _, e => by cases e
  | .dict _ :: _, _, e => by cases e
theorem intsOf_map (ns : List Int) : intsOf (ns.map PyData.int) = some ns := by
  induction ns with
  | nil => rfl
  | cons n r ih => simp only [List.map_cons, intsOf, ih, Option.map_some]
def fSum : List PyData → Option PyData
  | [.list ds] => (intsOf ds).map fun ns => .int ns.sum
  | _ => none
theorem ln_sum : LNok K (rSum K) fSum := by
  intro F H vs ds z Q s hv hf k
  unfold fSum at hf
  split at hf
  · rename_i ds
    obtain ⟨ns, e, rfl⟩ := Option.map_eq_some_iff.mp hf
    obtain ⟨v, rfl, h⟩ := vw1 hv
    obtain ⟨a, us, rfl, ha, hd⟩ := h.list s
    rw [intsOf_eq e] at hd
    rw [dpAll_ints hd] at ha
    exact ⟨a, ns, rfl, ha, k _ F H (Xt.refl s) (.int _)⟩
  · cases hf
/-- the greatest (least) of ints -/
def maxI : List Int → Option Int
  | [] => none
  | x :: r => some (r.foldl max x)
def minI : List Int → Option Int
  | [] => none
  | x :: r => some (r.foldl min x)
theorem foldl_max (r : List Int) : ∀ x : Int, x ≤ r.foldl max x ∧ (∀ y ∈ r, y ≤ r.foldl max x) ∧ (r.foldl max x = x ∨ r.foldl max x ∈ r) := by
  induction r with
  | nil => exact fun x => ⟨Int.le_refl _, fun y hy => (by cases hy), .inl rfl⟩
  | cons a r ih =>
    intro x
    obtain ⟨h1, h2, h3⟩ := ih (max x a)
    rw [List.foldl_cons]
    refine ⟨by omega, fun y hy => ?_, ?_⟩
    · rcases List.mem_cons.mp hy with rfl | hy
      · omega
      · exact h2 y hy
    · rcases h3 with h3 | h3
      · rw [h3]
        by_cases hx : a ≤ x
        · left; omega
        · right
          have : max x a = a := by omega
          rw [this]
          exact List.mem_cons_self ..
      · exact .inr (List.mem_cons_of_mem _ h3)
theorem foldl_min (r : List Int) : ∀ x : Int, r.foldl min x ≤ x ∧ (∀ y ∈ r, r.foldl min x ≤ y) ∧ (r.foldl min x = x ∨ r.foldl min x ∈ r) := by
  induction r with
  | nil => exact fun x => ⟨Int.le_refl _, fun y hy => (by cases hy), .inl rfl⟩
  | cons a r ih =>
    intro x
    obtain ⟨h1, h2, h3⟩ := ih (min x a)
    rw [List.foldl_cons]
    refine ⟨by omega, fun y hy => ?_, ?_⟩
    · rcases List.mem_cons.mp hy with rfl | hy
      · omega
      · exact h2 y hy
    · rcases h3 with h3 | h3
      · rw [h3]
        by_cases hx : x ≤ a
        · left; omega
        · right
          have : min x a = a := by omega
          rw [this]
          exact List.mem_cons_self ..
      · exact .inr (List.mem_cons_of_mem _ h3)
theorem maxI_spec {ns : List Int} {m : Int} (h : maxI ns = some m) : m ∈ ns ∧ ∀ y ∈ ns, y ≤ m := by
  cases ns with
  | nil => cases h
  | cons x r =>
    cases h
    obtain ⟨h1, h2, h3⟩ := foldl_max r x
    refine ⟨?_, fun y hy => ?_⟩
    · rcases h3 with h3 | h3
      · rw [h3]
        exact List.mem_cons_self ..
      · exact List.mem_cons_of_mem _ h3
    · rcases List.mem_cons.mp hy with rfl | hy
      · exact h1
      · exact h2 y hy
theorem minI_spec {ns : List Int} {m : Int} (h : minI ns = some m) : m ∈ ns ∧ ∀ y ∈ ns, m ≤ y := by
  cases ns with
  | nil => cases h
  | cons x r =>
    cases h
    obtain ⟨h1, h2, h3⟩ := foldl_min r x
    refine ⟨?_, fun y hy => ?_⟩
    · rcases h3 with h3 | h3
      · rw [h3]
        exact List.mem_cons_self ..
      · exact List.mem_cons_of_mem _ h3
    · rcases List.mem_cons.mp hy with rfl | hy
      · exact h1
      · exact h2 y hy
/-- max of a tuple of ints -/
def rMaxT (K : PySem.W.Frag) : List V → Hp → VK → Prop := fun vs H Q => ∃ (a : Addr) (ns : List Int), vs = [V.ref a] ∧ SqT K H a (ns.map V.int) ∧ 0 < ns.length ∧ ∀ m, m ∈ ns → (∀ y, y ∈ ns → y ≤ m) → Q (.int m) H
theorem intReads {h : Heap} : ∀ {us : List Value} {ns : List Int}, Vals (ns.map V.int) us → ReadsAll h us (ns.map PyData.int) []
  | _, [], .nil => .nil
  | _, n :: r, .cons a b => by
    obtain ⟨t, rfl⟩ := a
    exact .cons (as := []) (bs := []) (.int _ _) (intReads b)
theorem alikeInts (ns : List Int) : W.AlikeAll (ns.map PyData.int) := by
  refine ⟨fun x hx y hy => ?_, fun x hx => ?_⟩
  · obtain ⟨i, _, rfl⟩ := List.mem_map.mp hx
    obtain ⟨j, _, rfl⟩ := List.mem_map.mp hy
    simp [W.alike]
  · obtain ⟨i, _, rfl⟩ := List.mem_map.mp hx
    exact fun z => by cases z
theorem reads_int {h : Heap} {v : Value} {m : Int} {as : List Addr} (r : Reads h v (.int m) as) : ∃ t, v = .int m t := by
  cases r with
  | int i t => exact ⟨t, rfl⟩
theorem depthInts : ∀ ns : List Int, PyData.depthAll (ns.map PyData.int) = 0 := W.depth_ints
theorem cr_maxT (hc : X.calm = true) (hu : X.A.units + 64 < cLine) : CallR X (.builtin "max") (rMaxT X.K) := by
  intro pins s σ H xs us Q I rv h
  obtain ⟨a, ns, rfl, hs, hn, q⟩ := h
  obtain ⟨u, rfl, ru⟩ := rv.one
  cases (show u = Value.ref a from ru)
  obtain ⟨its, r, p, _⟩ := I.tuple hs
  cases ns with
  | nil => exact absurd hn (Nat.lt_irrefl _)
  | cons n r' =>
    refine W.max_tuple_data (x := .int n) (xs := r'.map PyData.int) (vs := its.toArray) (as := []) (I.ok.hd hc) (show s.heap.IsTuple a its.toArray from p) (by simpa using intReads r) (by simpa using alikeInts (n :: r')) (by
      have e : PyData.depthAll (.int n :: r'.map PyData.int) = 0 := depthInts (n :: r')
      rw [e]
      omega) fun i v h' tk bs hi rd hk => ?_
    rw [W.maxD_ints] at rd
    obtain ⟨t, rfl⟩ := reads_int rd
    obtain ⟨h1, h2, h3⟩ := foldl_max r' n
    refine ⟨.int (r'.foldl max n), H, I.kept (t' := tk) hk, ⟨t, rfl⟩, q _ ?_ fun y hy => ?_⟩
    · rcases h3 with h3 | h3
      · rw [h3]
        exact List.mem_cons_self ..
      · exact List.mem_cons_of_mem _ h3
    · rcases List.mem_cons.mp hy with rfl | hy
      · exact h1
      · exact h2 y hy
def rMaxA (K : PySem.W.Frag) : List V → Hp → VK → Prop := fun vs H Q => rMax K vs H Q ∨ rMaxT K vs H Q
theorem cr_maxA (hc : X.calm = true) (hu : X.A.units + 64 < cLine) : CallR X (.builtin "max") (rMaxA X.K) := callr_or (cr_max hc) (cr_maxT hc hu)
def fMax : List PyData → Option PyData
  | [.list ds] => match intsOf ds with
    | some ns => (maxI ns).map .int
    | none => none
  | [.tuple ds] => match intsOf ds with
    | some ns => (maxI ns).map .int
    | none => none
  | _ => none
theorem ln_max : LNok K (rMaxA K) fMax := by
  intro F H vs ds z Q s hv hf k
  unfold fMax at hf
  split at hf
  · rename_i ds
    cases e : intsOf ds with
    | none => rw [e] at hf; cases hf
    | some ns =>
      rw [e] at hf
      obtain ⟨m, e2, rfl⟩ := Option.map_eq_some_iff.mp hf
      obtain ⟨v, rfl, h⟩ := vw1 hv
      obtain ⟨a, us, rfl, ha, hd⟩ := h.list s
      rw [intsOf_eq e] at hd
      rw [dpAll_ints hd] at ha
      obtain ⟨m1, m2⟩ := maxI_spec e2
      refine .inl ⟨a, ns, rfl, ha, List.length_pos_of_mem m1, fun m' h1 h2 => ?_⟩
      have : m' = m := Int.le_antisymm (m2 _ h1) (h2 _ m1)
      rw [this]
      exact k _ F H (Xt.refl s) (.int _)
  · rename_i ds
    cases e : intsOf ds with
    | none => rw [e] at hf; cases hf
    | some ns =>
      rw [e] at hf
      obtain ⟨m, e2, rfl⟩ := Option.map_eq_some_iff.mp hf
      obtain ⟨v, rfl, h⟩ := vw1 hv
      obtain ⟨a, us, rfl, ha, hd⟩ := h.tup s
      rw [intsOf_eq e] at hd
      rw [dpAll_ints hd] at ha
      obtain ⟨m1, m2⟩ := maxI_spec e2
      refine .inr ⟨a, ns, rfl, ha, List.length_pos_of_mem m1, fun m' h1 h2 => ?_⟩
      have : m' = m := Int.le_antisymm (m2 _ h1) (h2 _ m1)
      rw [this]
      exact k _ F H (Xt.refl s) (.int _)
  · cases hf
def fMin1 : List PyData → Option PyData
  | [.list ds] => match intsOf ds with
    | some ns => (minI ns).map .int
    | none => none
  | _ => none
theorem ln_min : LNok K (rMin K) fMin1 := by
  intro F H vs ds z Q s hv hf k
  unfold fMin1 at hf
  split at hf
  · rename_i ds
    cases e : intsOf ds with
    | none => rw [e] at hf; cases hf
    | some ns =>
      rw [e] at hf
      obtain ⟨m, e2, rfl⟩ := Option.map_eq_some_iff.mp hf
      obtain ⟨v, rfl, h⟩ := vw1 hv
      obtain ⟨a, us, rfl, ha, hd⟩ := h.list s
      rw [intsOf_eq e] at hd
      rw [dpAll_ints hd] at ha
      obtain ⟨m1, m2⟩ := minI_spec e2
      refine ⟨a, ns, rfl, ha, List.length_pos_of_mem m1, fun m' h1 h2 => ?_⟩
      have : m' = m := Int.le_antisymm (h2 _ m1) (m2 _ h1)
      rw [this]
      exact k _ F H (Xt.refl s) (.int _)
  · cases hf
def fMin2 : List PyData → Option PyData
  | [.int i, .int j] => some (.int (if j < i then j else i))
  | _ => none
def fMax2 : List PyData → Option PyData
  | [.int i, .int j] => some (.int (if j > i then j else i))
  | _ => none
theorem ln_min2 : LNok K (fun xs H Q => ∃ i j, xs = [.int i, .int j] ∧ Q (.int (if j < i then j else i)) H) fMin2 := by
  intro F H vs ds z Q s hv hf k
  unfold fMin2 at hf
  split at hf
  · cases hf
    obtain ⟨v, u, rfl, h1, h2⟩ := vw2 hv
    exact ⟨_, _, by rw [h1.int, h2.int], k _ F H (Xt.refl s) (.int _)⟩
  · cases hf
theorem ln_max2 : LNok K (fun xs H Q => ∃ i j, xs = [.int i, .int j] ∧ Q (.int (if j > i then j else i)) H) fMax2 := by
  intro F H vs ds z Q s hv hf k
  unfold fMax2 at hf
  split at hf
  · cases hf
    obtain ⟨v, u, rfl, h1, h2⟩ := vw2 hv
    exact ⟨_, _, by rw [h1.int, h2.int], k _ F H (Xt.refl s) (.int _)⟩
  · cases hf
def fInt : List PyData → Option PyData
  | [.int i] => some (.int i)
  | [.bool b] => some (.int (if b then 1 else 0))
  | _ => none
theorem ln_int : LNok K (fun xs H Q => (∃ i, xs = [.int i] ∧ Q (.int i) H) ∨ ∃ k, xs = [.bl k] ∧ Q (.int (if k then 1 else 0)) H) fInt := by
  intro F H vs ds z Q s hv hf k
  unfold fInt at hf
  split at hf
  · cases hf
    obtain ⟨v, rfl, h⟩ := vw1 hv
    exact .inl ⟨_, by rw [h.int], k _ F H (Xt.refl s) (.int _)⟩
  · cases hf
    obtain ⟨v, rfl, h⟩ := vw1 hv
    exact .inr ⟨_, by rw [h.bool], k _ F H (Xt.refl s) (.int _)⟩
  · cases hf
def fAbs : List PyData → Option PyData
  | [.int i] => some (.int (if i < 0 then -i else i))
  | _ => none
theorem ln_abs : LNok K (fun xs H Q => ∃ i, xs = [.int i] ∧ Q (.int (if i < 0 then -i else i)) H) fAbs := by
  intro F H vs ds z Q s hv hf k
  unfold fAbs at hf
  split at hf
  · cases hf
    obtain ⟨v, rfl, h⟩ := vw1 hv
    exact ⟨_, by rw [h.int], k _ F H (Xt.refl s) (.int _)⟩
  · cases hf
def fDivmod : List PyData → Option PyData
  | [.int i, .int j] => if 0 < j ∧ j.natAbs < 1073741824 then some (.tuple [.int (i / j), .int (i % j)]) else none
  | _ => none
theorem ln_divmod : LNok K (fun xs H Q => ∃ i j, xs = [.int i, .int j] ∧ CDiv i j ∧ NewT Q H [.int (i / j), .int (i % j)]) fDivmod := by
  intro F H vs ds z Q s hv hf k
  unfold fDivmod at hf
  split at hf
  · split at hf
    · rename_i hc
      cases hf
      obtain ⟨v, u, rfl, h1, h2⟩ := vw2 hv
      exact ⟨_, _, by rw [h1.int, h2.int], ⟨hc.1, by omega⟩, fun p ob hp hob => k _ _ _ (Xt.new s hp hob) (dp_newT (s.free hp) (.cons (.int _) (.cons (.int _) .nil)))⟩
    · cases hf
  · cases hf
/-! ### sorted -/
def sortD (ds : List PyData) : List PyData := ds.mergeSort (W.dataLe false id)
def rSortD (K : PySem.W.Frag) : List V → Hp → VK → Prop := fun vs H Q => ∃ (F : Hp) (a : Addr) (xs : List V) (ds : List PyData), vs = [V.ref a] ∧ Same F H ∧ SqL K H a xs ∧ DpAll K F xs ds ∧ W.AllAlike ds ∧ W.Sortable ds ∧ (∀ d ∈ ds, d.depth ≤ 32) ∧
  ∀ p us, H p = none → DpAll K F us (sortD ds) → Q (.ref p) (upd H p (.lst us))
theorem dpAll_each {F H : Hp} {pins : List (Addr × Obj)} {σ : L2.St} {s : Shared} (I : Inv X pins σ H s) (sF : Same F H) : ∀ {xs : List V} {ds : List PyData} {us : List Value}, DpAll X.K F xs ds → Vals xs us →
    W.EachIs (fun v d => ∃ x, RelV x v ∧ Dp X.K F x d) us ds ∧ W.EachIs (fun v d => ∃ as, Reads s.heap v d as) us ds
  | _, _, _, .nil, .nil => ⟨.nil, .nil⟩
  | _, _, _, .cons h hs, .cons r rs => by
    obtain ⟨h1, h2⟩ := dpAll_each I sF hs rs
    exact ⟨.cons ⟨_, r, h⟩ h1, .cons (Dp.reads I _ _ _ (dp_same sF h) r) h2⟩
theorem each_dpAll {F : Hp} : ∀ {us : List Value} {ds : List PyData}, W.EachIs (fun v d => ∃ x, RelV x v ∧ Dp K F x d) us ds → ∃ xs, Vals xs us ∧ DpAll K F xs ds
  | _, _, .nil => ⟨[], .nil, .nil⟩
  | _, _, .cons ⟨x, r, h⟩ t => by
    obtain ⟨xs, h1, h2⟩ := each_dpAll t
    exact ⟨x :: xs, .cons r h1, .cons h h2⟩
theorem cr_sortD (hu : X.A.units + 64 < cLine) : CallR X (.builtin "sorted") (rSortD X.K) := by
  intro pins s σ H xs us Q I rv h
  obtain ⟨F, a, ys, ds, rfl, sF, hs, hd, hal, hk, hdep, q⟩ := h
  obtain ⟨u, rfl, ru⟩ := rv.one
  cases (show u = Value.ref a from ru)
  obtain ⟨its, r, p, hz⟩ := I.list hs
  obtain ⟨e1, e2⟩ := dpAll_each I sF hd r
  have hl : ds.length ≤ sizeLine := by
    rw [← dpAll_len hd]
    exact hz
  refine W.sorted_data (R := fun v d => ∃ x, RelV x v ∧ Dp X.K F x d) (vs := its) (bs := ds) (enc := id) p.isList e1 e2 (by rw [List.map_id]; exact hal) (by rw [List.map_id]; exact hk) hl (fun b hb => by have := hdep b hb; show X.A.units + 2 + b.depth < cLine; omega) fun out ho eo => ?_
  obtain ⟨ws, w1, w2⟩ := each_dpAll eo
  obtain ⟨n, hn⟩ := sortedAll_at s.heap its out.toArray
  have hle : s.heap.objs.size ≤ s.heap.objs.size + 1 := Nat.le_succ _
  refine ⟨.ref (s.heap.objs.size + 1), upd H (s.heap.objs.size + 1) (.lst ws), I.laid (t' := s.toks) (fun b o e => sortedAll_old e) hle ⟨?_, out, n, w1, hn⟩, rfl, q _ ws (I.hok.fresh hle) w2⟩
  rw [w1.length, ho]
  exact hl
/-- are they of kinds that sorted orders -/
def sortOk (ds : List PyData) : Bool := ds.all (fun d => ds.all fun e => W.alike d e) && (ds.all (fun d => match d with | .tuple (_ :: _) => true | _ => false) || ds.all (fun d => match d with | .none => false | .tuple _ => false | _ => true)) && ds.all fun d => decide (d.depth ≤ 32)
theorem sortOk_use {ds : List PyData} (h : sortOk ds = true) : W.AllAlike ds ∧ W.Sortable ds ∧ ∀ d ∈ ds, d.depth ≤ 32 := by
  unfold sortOk at h
  rw [Bool.and_eq_true, Bool.and_eq_true, Bool.or_eq_true] at h
  obtain ⟨⟨h1, h2⟩, h3⟩ := h
  refine ⟨fun d hd e he => List.all_eq_true.mp (List.all_eq_true.mp h1 d hd) e he, ?_, fun d hd => of_decide_eq_true (List.all_eq_true.mp h3 d hd)⟩
  rcases h2 with h2 | h2
  · refine .inl fun d hd => ?_
    have q := List.all_eq_true.mp h2 d hd
    split at q
    · exact ⟨_, _, rfl⟩
    · cases q
  · refine .inr fun d hd => ?_
    have q := List.all_eq_true.mp h2 d hd
    split at q
    · cases q
    · cases q
    · rename_i n1 n2
      exact ⟨fun z => n1 z, fun xs z => n2 xs z⟩
def fSorted : List PyData → Option (List PyData)
  | [.list ds] => if sortOk ds then some (sortD ds) else none
  | _ => none
theorem lf_sorted : LFok K (rSortD K) fSorted := by
  intro F H vs ds z Q s hv hf k
  unfold fSorted at hf
  split at hf
  · rename_i ds
    split at hf
    · rename_i ok
      cases hf
      obtain ⟨v, rfl, h⟩ := vw1 hv
      obtain ⟨a, us, rfl, ha, hd⟩ := h.list s
      obtain ⟨o1, o2, o3⟩ := sortOk_use ok
      exact ⟨F, a, us, ds, rfl, s, ha, hd, o1, o2, o3, fun p ws hp hw => k p ws hp hw⟩
    · cases hf
  · cases hf
/-! ### isinstance -/
def tyName : PyData → String
  | .none => "NoneType"
  | .bool _ => "bool"
  | .int _ => "int"
  | .str _ => "str"
  | .list _ => "list"
  | .tuple _ => "tuple"
  | .dict _ => "dict"
theorem dp_ty {H : Hp} {x : V} {d : PyData} (h : Dp K H x d) : TyX K H x (.type (tyName d)) := by
  cases h with
  | non => exact .base .non
  | bl b => exact .base (.bl b)
  | int i => exact .base (.int i)
  | str x => exact .base (.str x)
  | lst h _ =>
    rcases h with (h | ⟨o, h⟩) | ⟨o, its, n, h, hc, _⟩
    · exact .base (.lst h)
    · exact .base (.frz h)
    · exact .kList h hc
  | tup h _ =>
    rcases h with (h | ⟨o, h⟩) | ⟨o, its, n, h, hc, _⟩
    · exact .base (.tup h)
    · exact .fTuple h
    · exact .kTuple h hc
def isSub (a b : String) : Bool := a == b || (a == "bool" && b == "int")
def sIsi (T : String) (f : SE) : SE := fun ρ => match f ρ with
  | some (x, ρ1) => (res ρ1 x).map fun d => (.d (.bool (isSub (tyName d) T)), ρ1)
  | none => none
theorem kit_tab : ∀ a ∈ ["NoneType", "bool", "int", "str", "list", "tuple"], ∀ b ∈ ["int", "bool", "str", "list", "tuple"], kitB a b = some (isSub a b) := by decide +kernel
theorem tyName_mem (d : PyData) (hd : ∀ k, d ≠ .dict k) : tyName d ∈ ["NoneType", "bool", "int", "str", "list", "tuple"] := by
  cases d with
  | dict k => exact absurd rfl (hd k)
  | _ => simp [tyName]
theorem kit_all {T : String} (hT : T ∈ ["int", "bool", "str", "list", "tuple"]) (d : PyData) (hd : ∀ k, d ≠ .dict k) : PySem.W.kitOne K (.type (tyName d)) (.type T) = some (isSub (tyName d) T) :=
  kit_ty (kit_tab _ (tyName_mem d hd) _ hT)
theorem dp_nodict {H : Hp} {x : V} {d : PyData} (h : Dp K H x d) : ∀ k, d ≠ .dict k := fun k z => by
  subst z
  cases h
theorem eo_isi {a ce : Expr} {T : String} {f : SE} (hK : X.K = c.K) (hT : T ∈ ["int", "bool", "str", "list", "tuple"]) (h : ∀ {te : TE}, PE X a te → PE X ce (tCB (rIsi X.K) (tCons te (tCons (tC (.ty T)) tNil)))) (ha : EO c X a f) : EO c X ce (sIsi T f) := by
  refine ⟨pe_imp (h ha.pe) fun σ H Q ⟨F, ρ, x, ρ', R, e, k⟩ => ?_⟩
  unfold sIsi at e
  cases e1 : f ρ with
  | none => rw [e1] at e; cases e
  | some p =>
    obtain ⟨y, ρ1⟩ := p
    rw [e1] at e
    obtain ⟨d, e2, e3⟩ := Option.map_eq_some_iff.mp e
    cases e3
    refine ⟨F, ρ, y, _, R, e1, fun v H1 F1 s1 R1 o1 => ?_⟩
    have dd := (R1.vw o1 e2).dp R1.sub
    rw [hK]
    exact ⟨v, .ty T, _, _, _, rfl, .ty T, dp_ty dd, kit_all hT d (dp_nodict dd), k _ H1 F1 s1 R1 (.bl _)⟩
/-! ### slices -/
def cutD (xs : List PyData) (lo hi : Option Int) : List PyData := (xs.drop (HT.sIx xs.length 0 lo)).take (HT.sIx xs.length xs.length hi - HT.sIx xs.length 0 lo)
theorem cut_dp {F : Hp} {vs : List V} {ds : List PyData} {lo hi : Option Int} (h : DpAll K F vs ds) : DpAll K F (cutV vs lo hi) (cutD ds lo hi) := by
  unfold cutV cutD
  rw [dpAll_len h]
  exact dpAll_take _ (dpAll_drop _ h)
abbrev SP := Ev → Option (Option Int × Ev)
def pNone : SP := fun ρ => some (none, ρ)
def pSome (f : SE) : SP := fun ρ => match f ρ with
  | some (.d (.int i), ρ1) => some (some i, ρ1)
  | _ => none
def rP' (c : Co) (f : SP) : TO := fun σ H Q => ∃ F ρ o ρ', Rl c F H σ ρ ∧ f ρ = some (o, ρ') ∧ ∀ H' F', Same F F' → Rl c F' H' σ ρ' → Q o H'
structure EP' (c : Co) (X : Cx) (e : Option Expr) (f : SP) : Prop where
  po : PO X e (rP' c f)
theorem ep_none : EP' c X none pNone := ⟨⟨fun pins s σ H Q I ⟨F, ρ, o, ρ', R, e, k⟩ => by
  cases e
  exact po_none.run pins s σ H Q I (k H F (Same.refl _) R)⟩⟩
theorem ep_some {a : Expr} {f : SE} (h : EO c X a f) : EP' c X (some a) (pSome f) := ⟨⟨fun pins s σ H Q I ⟨F, ρ, o, ρ', R, e, k⟩ => by
  unfold pSome at e
  split at e
  · rename_i i ρ1 e1
    cases e
    exact (po_some h.pe).run pins s σ H Q I ⟨F, ρ, _, _, R, e1, fun v H' F' s' R' o => by
      cases o
      exact ⟨i, rfl, k H' F' s' R'⟩⟩
  · cases e⟩⟩
def sSl (f : PyData → Option Int → Option Int → Option PyData) (fa : SE) (fl fh : SP) : SE := fun ρ => match fa ρ with
  | none => none
  | some (x, ρ1) => match fl ρ1 with
    | none => none
    | some (l, ρ2) => match fh ρ2 with
      | none => none
      | some (h, ρ3) => match res ρ3 x with
        | some d => (f d l h).map fun z => (.d z, ρ3)
        | none => none
def fSl : PyData → Option Int → Option Int → Option PyData
  | .list ds, l, h => some (.list (cutD ds l h))
  | .tuple ds, l, h => some (.tuple (cutD ds l h))
  | _, _, _ => none
def rSlD (K : PySem.W.Frag) : V → Option Int → Option Int → Hp → VK → Prop := fun x l h H Q => rSlF K x l h H Q ∨ rSlL K x l h H Q
theorem sl_D : SlR X (rSlD X.K) := SlR.or sl_tupF sl_list
theorem cutD_all {ds : List PyData} {l h : Option Int} (e : HT.sIx ds.length 0 l = 0 ∧ HT.sIx ds.length ds.length h = ds.length) : cutD ds l h = ds := by
  unfold cutD
  rw [e.1, e.2, List.drop_zero, Nat.sub_zero, List.take_length]
theorem eo_slice {a ce : Expr} {lo hi : Option Expr} {fa : SE} {fl fh : SP} (hK : X.K = c.K) (h : ∀ {te : TE} {tl th : TO}, PE X a te → PO X lo tl → PO X hi th → PE X ce (tSl (rSlD X.K) te tl th)) (ha : EO c X a fa) (hl : EP' c X lo fl) (hh : EP' c X hi fh) : EO c X ce (sSl fSl fa fl fh) := by
  refine ⟨pe_imp (h ha.pe hl.po hh.po) fun σ H Q ⟨F, ρ, x, ρ', R, e, k⟩ => ?_⟩
  unfold sSl at e
  cases e1 : fa ρ with
  | none => rw [e1] at e; cases e
  | some p =>
    obtain ⟨y, ρ1⟩ := p
    rw [e1] at e
    dsimp only at e
    cases e2 : fl ρ1 with
    | none => rw [e2] at e; cases e
    | some p2 =>
      obtain ⟨l, ρ2⟩ := p2
      rw [e2] at e
      dsimp only at e
      cases e3 : fh ρ2 with
      | none => rw [e3] at e; cases e
      | some p3 =>
        obtain ⟨u, ρ3⟩ := p3
        rw [e3] at e
        dsimp only at e
        cases e4 : res ρ3 y with
        | none => rw [e4] at e; cases e
        | some d =>
          rw [e4] at e
          obtain ⟨z, e5, e6⟩ := Option.map_eq_some_iff.mp e
          cases e6
          refine ⟨F, ρ, y, ρ1, R, e1, fun v H1 F1 s1 R1 o1 => ⟨F1, ρ1, l, ρ2, R1, e2, fun H2 F2 s2 R2 => ⟨F2, ρ2, u, _, R2, e3, fun H3 F3 s3 R3 => ?_⟩⟩⟩
          have vw := R3.vw (o1.same (s2.trans s3)) e4
          have s123 := s1.trans (s2.trans s3)
          rw [hK]
          unfold fSl at e5
          split at e5
          · cases e5
            obtain ⟨p, vs, rfl, hs, hd⟩ := vw.list R3.sub
            exact .inr ⟨p, vs, rfl, hs, fun q hq => k _ _ _ (s123.trans (Xt.new R3.sub hq).f) (R3.xt (Xt.new R3.sub hq)) (dp_newL (R3.sub.free hq) (cut_dp hd))⟩
          · cases e5
            have vw0 := vw
            obtain ⟨p, vs, rfl, hs, hd⟩ := vw.tup R3.sub
            refine .inl ⟨p, vs, rfl, hs, fun w => ?_, fun _ q ob hq hob => k _ _ _ (s123.trans (Xt.new (o := .frz ob (.tup (cutV vs l u))) R3.sub hq hob).f) (R3.xt (Xt.new (o := .frz ob (.tup (cutV vs l u))) R3.sub hq hob)) (dp_newT (R3.sub.free hq) (cut_dp hd))⟩
            rw [dpAll_len hd] at w
            rw [cutD_all w] at k
            refine k _ H3 F3 s123 R3 ?_
            rcases vw0 with q | ⟨_, _, _, _, q, _⟩
            · exact q
            · cases q
          · cases e5
/-! ### enumerate -/
def enumD (ds : List PyData) : List PyData := ds.mapIdx fun i d => .tuple [.int (i : Nat), d]
def sEnum (f : SA) : SI := fun ρ => match f ρ with
  | some ([.d (.list ds)], ρ1) => some (enumD ds, ρ1)
  | some ([.d (.tuple ds)], ρ1) => some (enumD ds, ρ1)
  | _ => none
theorem enumD_at {ds : List PyData} {i : Nat} {d : PyData} (h : (enumD ds)[i]? = some d) : ∃ x, ds[i]? = some x ∧ d = .tuple [.int (i : Nat), x] := by
  unfold enumD at h
  rw [List.getElem?_mapIdx] at h
  obtain ⟨x, e1, e2⟩ := Option.map_eq_some_iff.mp h
  exact ⟨x, e1, e2.symm⟩
theorem enumD_len (ds : List PyData) : (enumD ds).length = ds.length := by
  unfold enumD
  rw [List.length_mapIdx]
theorem wk_enum {F : Hp} {a : Addr} {vs : List V} {ds : List PyData} (hK : X.K = c.K) (h : SqL c.K F a vs) (hs : DpAll c.K F vs ds) : Wk c (ENT.IteL X.K a) F (enumD ds) := by
  rw [hK]
  refine ⟨fun i d F2 H2 e s1 s2 => ?_, fun F2 H2 s1 s2 => ⟨vs, s2.seq (s1.seq h), by rw [enumD_len, dpAll_len hs]; exact Nat.le_refl _⟩⟩
  obtain ⟨x, e1, rfl⟩ := enumD_at e
  obtain ⟨v, ev, dv⟩ := dpAll_at hs e1
  refine ⟨⟨vs, v, s2.seq (s1.seq h), ev⟩, fun y H3 ⟨T, z, ob, q1, q2, qd, q3, q4⟩ => ?_⟩
  subst q1
  subst q3
  have := q4 vs (s2.seq (s1.seq h))
  rw [ev] at this
  cases this
  exact ⟨_, Xt.new s2 q2 qd, dp_newT (s2.free q2) (.cons (.int _) (.cons (dp_same s1 dv) .nil))⟩
theorem wk_enumT {F : Hp} {a : Addr} {vs : List V} {ds : List PyData} (hK : X.K = c.K) (h : SqT c.K F a vs) (hs : DpAll c.K F vs ds) : Wk c (ENT.IteT X.K a) F (enumD ds) := by
  rw [hK]
  refine ⟨fun i d F2 H2 e s1 s2 => ?_, fun F2 H2 s1 s2 => ⟨vs, sqT_same s2 (sqT_same s1 h), by rw [enumD_len, dpAll_len hs]; exact Nat.le_refl _⟩⟩
  obtain ⟨x, e1, rfl⟩ := enumD_at e
  obtain ⟨v, ev, dv⟩ := dpAll_at hs e1
  refine ⟨⟨vs, v, sqT_same s2 (sqT_same s1 h), ev⟩, fun y H3 ⟨T, z, ob, q1, q2, qd, q3, q4⟩ => ?_⟩
  subst q1
  subst q3
  have := q4 vs (sqT_same s2 (sqT_same s1 h))
  rw [ev] at this
  cases this
  exact ⟨_, Xt.new s2 q2 qd, dp_newT (s2.free q2) (.cons (.int _) (.cons (dp_same s1 dv) .nil))⟩
theorem ei_enum {a : Expr} {fa : SA} {tg ce : Expr} (hK : X.K = c.K) (h : ∀ {t : TA}, PA X [a] t → PI X tg ce (ENT.iEnumL X.K t)) (h' : ∀ {t : TA}, PA X [a] t → PI X tg ce (ENT.iEnumT X.K t)) (ha : EA c X [a] fa) : EI c X tg ce (sEnum fa) := by
  refine ⟨⟨fun pins s σ H R I ⟨F, ρ, items, ρ', RR, e1, k⟩ => ?_⟩⟩
  unfold sEnum at e1
  split at e1
  · rename_i ds ρ1 e2
    cases e1
    refine (h ha.pa).run pins s σ H R I ⟨F, ρ, _, _, RR, e2, fun vs H1 F1 s1 R1 o1 => ?_⟩
    match vs, o1 with
    | [v], ⟨o, _⟩ =>
      cases o with
      | lst hs hd => exact ⟨_, _, rfl, by rw [hK]; exact R1.sub.seq hs, k _ H1 F1 s1 R1 (wk_enum hK hs hd)⟩
  · rename_i ds ρ1 e2
    cases e1
    refine (h' ha.pa).run pins s σ H R I ⟨F, ρ, _, _, RR, e2, fun vs H1 F1 s1 R1 o1 => ?_⟩
    match vs, o1 with
    | [v], ⟨o, _⟩ =>
      cases o with
      | tup hs hd => exact ⟨_, _, rfl, by rw [hK]; exact sqT_same R1.sub hs, k _ H1 F1 s1 R1 (wk_enumT hK hs hd)⟩
  · cases e1
end
end PD

/-! Plain data: len(set(x)) of ints -/
namespace PD
open PySem PySem.Spec PyProof.Rows L2 GxR LG

def nubI : List Int → List Int
  | [] => []
  | x :: r => if x ∈ r then nubI r else x :: nubI r
theorem nubI_mem : ∀ (l : List Int) (k : Int), k ∈ nubI l ↔ k ∈ l
  | [], k => Iff.rfl
  | x :: r, k => by
    unfold nubI
    split
    · rename_i h
      rw [nubI_mem r k, List.mem_cons]
      exact ⟨.inr, fun q => q.elim (fun z => z ▸ h) id⟩
    · rw [List.mem_cons, List.mem_cons, nubI_mem r k]
theorem nubI_nodup : ∀ l : List Int, (nubI l).Nodup
  | [] => List.Pairwise.nil
  | x :: r => by
    unfold nubI
    split
    · exact nubI_nodup r
    · rename_i h
      exact List.nodup_cons.mpr ⟨fun z => h ((nubI_mem r x).mp z), nubI_nodup r⟩
theorem nodup_le : ∀ {a b : List Int}, a.Nodup → (∀ k ∈ a, k ∈ b) → a.length ≤ b.length
  | [], _, _, _ => Nat.zero_le _
  | x :: r, b, h, s => by
    have hx := s x (List.mem_cons_self ..)
    obtain ⟨h1, h2⟩ := List.nodup_cons.mp h
    have e := List.length_erase_of_mem hx
    have q : r.length ≤ (b.erase x).length := nodup_le h2 fun k hk => (List.mem_erase_of_ne (fun z : k = x => h1 (by rw [← z]; exact hk))).mpr (s k (List.mem_cons_of_mem _ hk))
    have p : 0 < b.length := List.length_pos_of_mem hx
    rw [List.length_cons]
    omega
theorem nodup_len {a b : List Int} (ha : a.Nodup) (hb : b.Nodup) (h : ∀ k, k ∈ a ↔ k ∈ b) : a.length = b.length :=
  Nat.le_antisymm (nodup_le ha fun k hk => (h k).mp hk) (nodup_le hb fun k hk => (h k).mpr hk)
theorem firstMet_nodup' (val : Nat → Int) : ∀ i, (firstMet val i).Nodup
  | 0 => by
    rw [firstMet_zero]
    exact List.Pairwise.nil
  | i + 1 => by
    rw [firstMet_succ]
    unfold step_dedup
    split
    · exact firstMet_nodup' val i
    · rename_i h
      refine List.nodup_append.mpr ⟨firstMet_nodup' val i, List.nodup_cons.mpr ⟨by simp, List.Pairwise.nil⟩, fun a ha b hb => ?_⟩
      have eb : b = val i := by simpa using hb
      intro z
      apply h
      rw [List.any_eq_true]
      exact ⟨a, ha, by rw [z, eb]; simp⟩
theorem firstMet_mem' (val : Nat → Int) (k : Int) : ∀ i, k ∈ firstMet val i ↔ ∃ j, j < i ∧ val j = k
  | 0 => by
    rw [firstMet_zero]
    exact ⟨fun h => (by cases h), fun ⟨j, h, _⟩ => absurd h (Nat.not_lt_zero j)⟩
  | i + 1 => by
    rw [firstMet_succ]
    unfold step_dedup
    split
    · rename_i h
      rw [firstMet_mem' val k i]
      constructor
      · exact fun ⟨j, h1, h2⟩ => ⟨j, Nat.lt_succ_of_lt h1, h2⟩
      · intro ⟨j, h1, h2⟩
        rcases Nat.lt_succ_iff_lt_or_eq.mp h1 with h1 | h1
        · exact ⟨j, h1, h2⟩
        · subst h1
          obtain ⟨a, ha, hb⟩ := List.any_eq_true.mp h
          have : a = val j := by simpa using hb
          rw [← h2, ← this]
          exact (firstMet_mem' val a j).mp ha
    · rw [List.mem_append, firstMet_mem' val k i, List.mem_singleton]
      constructor
      · intro h
        rcases h with ⟨j, h1, h2⟩ | h
        · exact ⟨j, Nat.lt_succ_of_lt h1, h2⟩
        · exact ⟨i, Nat.lt_succ_self i, h.symm⟩
      · intro ⟨j, h1, h2⟩
        rcases Nat.lt_succ_iff_lt_or_eq.mp h1 with h1 | h1
        · exact .inl ⟨j, h1, h2⟩
        · subst h1
          exact .inr h2.symm
theorem firstMet_len (ns : List Int) : (firstMet (fun i => ns.getD i 0) ns.length).length = (nubI ns).length := by
  refine nodup_len (firstMet_nodup' _ _) (nubI_nodup _) fun k => ?_
  rw [firstMet_mem', nubI_mem]
  constructor
  · intro ⟨j, h1, h2⟩
    rw [List.getD_eq_getElem?_getD, List.getElem?_eq_getElem h1] at h2
    rw [← h2]
    exact List.getElem_mem h1
  · intro h
    obtain ⟨j, hj, e⟩ := List.getElem_of_mem h
    exact ⟨j, hj, by rw [List.getD_eq_getElem?_getD, List.getElem?_eq_getElem hj]; exact e⟩
section
variable {c : Co} {X : Cx} {K : PySem.W.Frag} {e : Expr} {es : List Expr} {pos : Pos}
def tLenSet (K : PySem.W.Frag) (ta : TE) : TE := fun σ H Q => ta σ H fun x H1 => ∃ (l : Addr) (ns : List Int), x = .ref l ∧ (SqL K H1 l (ns.map V.int) ∨ SqT K H1 l (ns.map V.int)) ∧ ns.length ≤ 4000 ∧ Q (.int ((nubI ns).length : Nat)) H1
theorem pe_lenSet {a : Expr} {ta : TE} {p p2 q pos : Pos} (hg : Gl X "len") (hm : X.mg "len" = none) (hg2 : Gl X "set") (hm2 : X.mg "set" = none) (ha : PE X a ta) (hc : X.calm = true := by rfl)
    (na : starEach [a] X.env = (false, eval a X.env) :: starEach [] X.env := by rfl) : PE X (.Call (.Name "len" p) [.Call (.Name "set" p2) [a] [] q] [] pos) (tLenSet X.K ta) := by
  refine ⟨fun pins s σ H Q I h => ?_⟩
  refine Call_ (ld_blt I hg hm boot_len ?_)
  refine PyProof.Rows.callWith_builtin1 (PyProof.Rows.args_cons ?_ rfl) rfl rfl
  refine Call_ (ld_blt I hg2 hm2 boot_set ?_)
  refine PyProof.Rows.callWith_type1 (PyProof.Rows.args_cons (thn (ha.run pins s σ H _ I h) fun v s1 ⟨x, H1, I1, r1, q1⟩ => PyProof.Rows.args_nil ?_) na) na rfl
  obtain ⟨l, ns, rfl, hq, hl, q1⟩ := q1
  cases r1
  rcases hq with hq | hq
  · obtain ⟨its, r, pl, hz⟩ := I1.list hq
    have hlen : its.toArray.size = ns.length := by rw [List.size_toArray, ← r.length, List.length_map]
    refine call_set_list (I1.ok.hd hc) pl.isList (by simpa using RZ.intsAre_vals r) (by rw [hlen]; unfold scanBound; omega) fun h' tk hS hk => ?_
    refine PyProof.Rows.args_nil ?_
    rw [hlen] at hS
    have hn' := firstMet_len ns
    obtain ⟨o, es, ep, t, ho, hex, hd, _, _, _, hf, hn⟩ := hS
    have I2 : Inv X pins σ H1 { s1 with heap := h', toks := tk } := I1.kept fun b o e => hk b o (Heap.lt_size e) e
    have hle := firstMet_length_le (fun i => ns.getD i 0) ns.length
    exact call_len_set ho hex hd hf (by rw [hn] <;> omega) ⟨.int ((nubI ns).length : Nat), H1, I2.tok _, ⟨_, by rw [hn, hn']⟩, q1⟩
  · obtain ⟨its, r, pl, hz⟩ := I1.tuple hq
    have hlen : its.length = ns.length := by rw [← r.length, List.length_map]
    refine L2.call_set_tupI ns (I1.ok.hd hc) (show s1.heap.IsTuple l its.toArray from pl) (by simpa using RZ.intsAre_vals r) (by unfold scanBound; omega) fun h' tk n hS hcn hk => ?_
    refine PyProof.Rows.args_nil ?_
    have I2 : Inv X pins σ H1 { s1 with heap := h', toks := tk } := I1.kept fun b o e => hk b o e
    obtain ⟨o, es, ep, t, ho, hex, hd, _, hnd, hmem, _, hf, hn, _⟩ := hS
    have e1 : (es.toList.map _).length = (nubI ns).length := nodup_len hnd (nubI_nodup ns) fun k => by
      rw [← hmem k, decide_eq_true_eq, nubI_mem]
    have e2 : es.size = (nubI ns).length := by
      rw [List.length_map, Array.length_toList] at e1
      exact e1
    exact call_len_set ho hex hd hf (by omega) ⟨.int ((nubI ns).length : Nat), H1, I2.tok _, ⟨_, by rw [e2]⟩, q1⟩
def sLenSet (f : SE) : SE := fun ρ => match f ρ with
  | some (x, ρ1) => match res ρ1 x with
    | some (.list ds) => match intsOf ds with
      | some ns => if ns.length ≤ 4000 then some (.d (.int (nubI ns).length), ρ1) else none
      | none => none
    | some (.tuple ds) => match intsOf ds with
      | some ns => if ns.length ≤ 4000 then some (.d (.int (nubI ns).length), ρ1) else none
      | none => none
    | _ => none
  | none => none
theorem eo_lenSet {a ce : Expr} {f : SE} (hK : X.K = c.K) (h : ∀ {te : TE}, PE X a te → PE X ce (tLenSet X.K te)) (ha : EO c X a f) : EO c X ce (sLenSet f) := by
  refine ⟨pe_imp (h ha.pe) fun σ H Q ⟨F, ρ, x, ρ', R, e, k⟩ => ?_⟩
  unfold sLenSet at e
  cases e1 : f ρ with
  | none => rw [e1] at e; cases e
  | some p =>
    obtain ⟨y, ρ1⟩ := p
    rw [e1] at e
    dsimp only at e
    cases e2 : res ρ1 y with
    | none => rw [e2] at e; cases e
    | some d =>
      rw [e2] at e
      cases d with
      | list ds =>
        dsimp only at e
        cases e3 : intsOf ds with
        | none => rw [e3] at e; cases e
        | some ns =>
          rw [e3] at e
          dsimp only at e
          split at e
          · rename_i hl
            cases e
            refine ⟨F, ρ, y, _, R, e1, fun v H1 F1 s1 R1 o1 => ?_⟩
            obtain ⟨p, vs, rfl, hs, hd⟩ := (R1.vw o1 e2).list R1.sub
            rw [intsOf_eq e3] at hd
            rw [dpAll_ints hd] at hs
            rw [hK]
            exact ⟨p, ns, rfl, .inl hs, hl, k _ H1 F1 s1 R1 (.int _)⟩
          · cases e
      | tuple ds =>
        dsimp only at e
        cases e3 : intsOf ds with
        | none => rw [e3] at e; cases e
        | some ns =>
          rw [e3] at e
          dsimp only at e
          split at e
          · rename_i hl
            cases e
            refine ⟨F, ρ, y, _, R, e1, fun v H1 F1 s1 R1 o1 => ?_⟩
            obtain ⟨p, vs, rfl, hs, hd⟩ := (R1.vw o1 e2).tup R1.sub
            rw [intsOf_eq e3] at hd
            rw [dpAll_ints hd] at hs
            rw [hK]
            exact ⟨p, ns, rfl, .inr hs, hl, k _ H1 F1 s1 R1 (.int _)⟩
          · cases e
      | _ => cases e
end
end PD

/-! Plain data: list + list, parallel assignment, extend, count, list(range(..)) -/
namespace PD
open PySem PySem.Spec PyProof.Rows L2 GxR LG

section
variable {X : Cx} {K : PySem.W.Frag}
/-! ### list + list -/
def rCatL (K : PySem.W.Frag) : R2 := fun x y H Q => ∃ a b xs ys, x = .ref a ∧ y = .ref b ∧ SqL K H a xs ∧ SqL K H b ys ∧ xs.length + ys.length ≤ sizeLine ∧ ∀ p, H p = none → Q (.ref p) (upd H p (.lst (xs ++ ys)))
theorem op_catL : OpR X (binaryOp .Add) (rCatL X.K) := by
  intro pins s σ H x y v u Q I rx ry h
  obtain ⟨a, b, xs, ys, rfl, rfl, ha, hb, hz, q⟩ := h
  cases rx
  cases ry
  obtain ⟨its, r1, ⟨⟨cls, dd, data, sl⟩, n, ho, hc, hdn, hd⟩, hlen⟩ := I.list ha
  obtain ⟨its2, r2, ⟨⟨cls2, dd2, data2, sl2⟩, n2, ho2, hc2, hdn2, hd2⟩, hlen2⟩ := I.list hb
  simp only at hc hd hc2 hd2
  subst hc hd hc2 hd2
  have l1 := r1.length
  have l2 := r2.length
  refine concat_meets (T := "list") (id := "list.__add__") ⟨_, ho, rfl⟩ ⟨_, ho2, rfl⟩ (by kernel_rfl) (by kernel_rfl) PySem.F.slot_list_add PySem.F.entry_list_add (PySem.F.args_list_add_2 _ _)
    (list_addW a b its.toArray its2.toArray n n2 dd dd2 sl sl2 (by rw [List.size_toArray, List.size_toArray]; omega)) ⟨ho, ho2, ?_⟩
  have ea : its.toArray ++ its2.toArray = (its ++ its2).toArray := by simp
  rw [ea]
  exact ⟨.ref _, _, I.lnew (t' := s.toks) (r1.append r2) (by rw [List.length_append]; omega), rfl, q _ I.fresh⟩
def fCat : PyData → PyData → Option (List PyData)
  | .list xs, .list ys => if xs.length + ys.length ≤ 1000000 then some (xs ++ ys) else none
  | _, _ => none
theorem l2f_cat : L2F K (rCatL K) fCat := by
  intro F H x y d e z Q s hx hy hf k
  unfold fCat at hf
  split at hf
  · rename_i xs ys
    split at hf
    · rename_i hn
      cases hf
      obtain ⟨a, vs, rfl, ha, hva⟩ := hx.list s
      obtain ⟨b, us, rfl, hb, hvb⟩ := hy.list s
      exact ⟨a, b, vs, us, rfl, rfl, ha, hb, by rw [dpAll_len hva, dpAll_len hvb]; exact size_line hn, fun p hp => k p _ hp (dpAll_app hva hvb)⟩
    · cases hf
  · cases hf
def rAdd3 (K : PySem.W.Frag) : R2 := fun x y H Q => rAddA K x y H Q ∨ rCatL K x y H Q
theorem op_add3 : OpR X (binaryOp .Add) (rAdd3 X.K) := opr_or op_addA op_catL
theorem l2_add3 : L2ok K (rAdd3 K) fAdd := by
  intro F H x y d e z Q s hx hy hf k
  by_cases hl : ∃ xs ys, d = .list xs ∧ e = .list ys
  · obtain ⟨xs, ys, rfl, rfl⟩ := hl
    simp only [fAdd] at hf
    split at hf
    · rename_i hn
      cases hf
      obtain ⟨a, vs, rfl, ha, hva⟩ := hx.list s
      obtain ⟨b, us, rfl, hb, hvb⟩ := hy.list s
      exact .inr ⟨a, b, vs, us, rfl, rfl, ha, hb, by rw [dpAll_len hva, dpAll_len hvb]; exact size_line hn, fun p hp => k _ _ _ (Xt.new s hp) (dp_newL (s.free hp) (dpAll_app hva hvb))⟩
    · cases hf
  · refine .inl (l2_add F H x y d e z Q s hx hy ?_ k)
    rw [← hf]
    unfold fAdd fAddT
    cases d <;> cases e <;> first | rfl | exact absurd ⟨_, _, rfl, rfl⟩ hl
end

section
variable {c : Co} {X : Cx} {e : Expr} {es : List Expr} {pos : Pos}
/-! ### a, b = e1, e2 -/
def putDs : List Nat → List PyData → Ev → Option Ev
  | [], [], ρ => some ρ
  | i :: is, d :: ds, ρ => putDs is ds (ρ.set i (.dat d))
  | _, _, _ => none
def sPar (is : List Nat) (fa : SA) : SS := fun ρ => match fa ρ with
  | none => none
  | some (xs, ρ1) => match allD xs with
    | none => none
    | some ds => (putDs is ds ρ1).map fun ρ2 => (.nx, ρ2)
theorem es_par {i j : Nat} {fa : SA} {st : Stmt} (h : ∀ {t : TA}, PA X es t → PS X st (tPar i j t)) (ha : EA c X es fa) : ES c X st (sPar [i, j] fa) := by
  refine ⟨ps_imp (h ha.pa) fun D σ H ⟨F, ρ, fl, ρ', R, e, k⟩ => ?_⟩
  unfold sPar at e
  cases e1 : fa ρ with
  | none => rw [e1] at e; cases e
  | some p =>
    obtain ⟨xs, ρ1⟩ := p
    rw [e1] at e
    dsimp only at e
    cases e2 : allD xs with
    | none => rw [e2] at e; cases e
    | some ds =>
      rw [e2] at e
      dsimp only at e
      match ds, e2, e with
      | [d1, d2], e2, e =>
        cases e
        refine ⟨F, ρ, xs, _, R, e1, fun vs H1 F1 s1 R1 o1 => ?_⟩
        cases allD_ok o1 e2 with
        | cons a b => cases b with
          | cons a' b' => cases b' with
            | nil => exact ⟨_, _, rfl, k _ H1 F1 s1 ((R1.set a).set a')⟩
      | [], _, e => cases e
      | [_], _, e => cases e
      | _ :: _ :: _ :: _, _, e => cases e
theorem es_par3 {i j l : Nat} {fa : SA} {st : Stmt} (h : ∀ {t : TA}, PA X es t → PS X st (tPar3 i j l t)) (ha : EA c X es fa) : ES c X st (sPar [i, j, l] fa) := by
  refine ⟨ps_imp (h ha.pa) fun D σ H ⟨F, ρ, fl, ρ', R, e, k⟩ => ?_⟩
  unfold sPar at e
  cases e1 : fa ρ with
  | none => rw [e1] at e; cases e
  | some p =>
    obtain ⟨xs, ρ1⟩ := p
    rw [e1] at e
    dsimp only at e
    cases e2 : allD xs with
    | none => rw [e2] at e; cases e
    | some ds =>
      rw [e2] at e
      dsimp only at e
      match ds, e2, e with
      | [d1, d2, d3], e2, e =>
        cases e
        refine ⟨F, ρ, xs, _, R, e1, fun vs H1 F1 s1 R1 o1 => ?_⟩
        cases allD_ok o1 e2 with
        | cons a b => cases b with
          | cons a' b' => cases b' with
            | cons a'' b'' => cases b'' with
              | nil => exact ⟨_, _, _, rfl, k _ H1 F1 s1 (((R1.set a).set a').set a'')⟩
      | [], _, e => cases e
      | [_], _, e => cases e
      | [_, _], _, e => cases e
      | _ :: _ :: _ :: _ :: _, _, e => cases e
/-- a new list first, then a value: both names on one line -/
def sParO (i j : Nat) (f : SI) (g : SE) : SS := fun ρ => match f ρ with
  | none => none
  | some (ds, ρ1) => match g ρ1 with
    | some (.d d, ρ2) => if i = j then none else some (.nx, (ρ2.set i (.own ds)).set j (.dat d))
    | _ => none
theorem es_parO {i j : Nat} {a b : Expr} {f : SI} {g : SE} {st : Stmt} (h : ∀ {t u : TE}, PE X a t → PE X b u → PS X st (tPar i j (tCons t (tCons u tNil)))) (ha : EF c X a f) (hb : ∀ H0 F0 io, EO (c.re H0 F0 io) X b g) : ES c X st (sParO i j f g) := by
  refine ⟨ps_imp (h ha.pe (any_e hb)) fun D σ H ⟨F, ρ, fl, ρ', R, e, k⟩ => ?_⟩
  unfold sParO at e
  cases e1 : f ρ with
  | none => rw [e1] at e; cases e
  | some p =>
    obtain ⟨ds, ρ1⟩ := p
    rw [e1] at e
    dsimp only at e
    cases e2 : g ρ1 with
    | none => rw [e2] at e; cases e
    | some q =>
      obtain ⟨x, ρ2⟩ := q
      rw [e2] at e
      cases x with
      | s i => cases e
      | d d =>
        dsimp only at e
        split at e
        · cases e
        · rename_i hij
          cases e
          refine ⟨F, ρ, ds, ρ1, R, e1, fun a H1 F1 s1 R1 f1 => ?_⟩
          obtain ⟨vs, hv, hd⟩ := f1.at_
          have f0 : c.F0 a = none := R1.mono.free f1.nf
          have nio : a ∉ c.io := fun z => (R1.ioh a z).1 f1.h0
          have R2 := R1.guard f1 hv f0
          refine ⟨c.with a (.lst vs), rfl, rfl, F1, ρ1, _, ρ2, R2, e2, fun v H3 F3 s3 R3 o3 => ?_⟩
          obtain ⟨R4, h4, n4, no4⟩ := R3.unguard f1.h0 f1.nt nio f0
          have f4 : Fresh c F3 H3 σ ρ2 a ds := ⟨⟨vs, h4, dpAll_same s3 hd⟩, n4, f1.nt, f1.h0, no4⟩
          have R5 := (R4.putOwn i f4).set (i := j) o3
          exact ⟨_, _, rfl, k _ H3 F3 (s1.trans s3) R5⟩
/-! ### x.extend([..]) -/
def sExt (i : Nat) (f : SI) : SS := fun ρ => match cont? ρ i with
  | none => none
  | some _ => match f ρ with
    | some (ys, ρ1) => match cont? ρ1 i with
      | some ds => if ds.length + ys.length ≤ 1000000 then some (.nx, setCont ρ1 i (ds ++ ys)) else none
      | none => none
    | _ => none
theorem es_ext (i : Nat) {f : SI} {st : Stmt} (h : ∀ {te : TE}, PE X e te → PS X st (tDrop (tBM X.K "list" rExtend (tVar i) (tCons te tNil)))) (he : EF c X e f) : ES c X st (sExt i f) := by
  refine ⟨ps_imp (h he.pe) fun D σ H ⟨F, ρ, fl, ρ', R, e, k⟩ => ?_⟩
  unfold sExt at e
  cases e0 : cont? ρ i with
  | none => rw [e0] at e; cases e
  | some rs0 =>
    rw [e0] at e
    dsimp only at e
    obtain ⟨r, ws, v0, v1, v2, v3, v4⟩ := cont_at R e0
    cases e1 : f ρ with
    | none => rw [e1] at e; cases e
    | some p =>
      obtain ⟨ys, ρ1⟩ := p
      rw [e1] at e
      dsimp only at e
      cases e2 : cont? ρ1 i with
      | none => rw [e2] at e; cases e
      | some ds =>
        rw [e2] at e
        dsimp only at e
        split at e
        · rename_i hn
          cases e
          refine ⟨.ref r, vAt_eq v0, .inl ⟨rfl, ws, .inl (.inl v1)⟩, F, ρ, _, ρ1, R, e1, fun a H1 F1 s1 R1 f1 => ?_⟩
          obtain ⟨r1, ws1, w0, w1, w2, w3, w4⟩ := cont_at R1 e2
          rw [v0] at w0
          cases w0
          obtain ⟨us, hu, hd⟩ := f1.at_
          exact ⟨r, a, ws1, us, rfl, rfl, w1, hu, by rw [dpAll_len w2, dpAll_len hd]; exact size_line hn, k σ _ F1 s1 (R1.put e2 v0 w3 w4 (dpAll_app w2 hd))⟩
        · cases e
/-! ### xs.count(x) -/
def fCount : PyData → PyData → Option PyData
  | .list ds, .int k => match intsOf ds with
    | some ns => some (.int (ns.count k : Nat))
    | none => none
  | _, _ => none
/-- a method of a list, one argument -/
def sM1 (f : PyData → PyData → Option PyData) (fo fa : SE) : SE := fun ρ => match fo ρ with
  | none => none
  | some (u, ρ1) => match res ρ1 u with
    | some (.list _) => match fa ρ1 with
      | none => none
      | some (v, ρ2) => match res ρ2 u, res ρ2 v with
        | some d, some e => (f d e).map fun z => (.d z, ρ2)
        | _, _ => none
    | _ => none
def L1M (K : PySem.W.Frag) (r : V → List V → Hp → VK → Prop) (f : PyData → PyData → Option PyData) : Prop :=
  ∀ (F H : Hp) (x y : V) (d e z : PyData) (Q : VK), Same F H → Vw K F H x d → Vw K F H y e → f d e = some z → (∀ v F' H', Xt F H F' H' → Dp K F' v z → Q v H') → r x [y] H Q
theorem eo_m1 {o ce : Expr} {fo fa : SE} {r : V → List V → Hp → VK → Prop} {f : PyData → PyData → Option PyData} (hK : X.K = c.K) (h : ∀ {to te : TE}, PE X o to → PE X e te → PE X ce (tBM X.K "list" r to (tCons te tNil))) (hl : L1M c.K r f) (ho : EO c X o fo) (he : EO c X e fa) : EO c X ce (sM1 f fo fa) := by
  refine ⟨pe_imp (h ho.pe he.pe) fun σ H Q ⟨F, ρ, x, ρ', R, q, k⟩ => ?_⟩
  unfold sM1 at q
  cases h1 : fo ρ with
  | none => rw [h1] at q; cases q
  | some p =>
    obtain ⟨u, ρ1⟩ := p
    rw [h1] at q
    dsimp only at q
    split at q
    · rename_i ds0 h2
      cases h3 : fa ρ1 with
      | none => rw [h3] at q; cases q
      | some p =>
        obtain ⟨v, ρ2⟩ := p
        rw [h3] at q
        dsimp only at q
        cases h4 : res ρ2 u with
        | none => rw [h4] at q; cases q
        | some d =>
          cases h5 : res ρ2 v with
          | none => rw [h4, h5] at q; cases q
          | some d' =>
            rw [h4, h5] at q
            dsimp only at q
            cases h6 : f d d' with
            | none => rw [h6] at q; cases q
            | some z =>
              rw [h6] at q
              cases q
              refine ⟨F, ρ, u, ρ1, R, h1, fun xv H1 F1 s1 R1 o1 => ?_⟩
              obtain ⟨a, vs, rfl, ha, _⟩ := (R1.vw o1 h2).list R1.sub
              refine ⟨.inl ⟨rfl, vs, by rw [hK]; exact ha⟩, F1, ρ1, v, _, R1, h3, fun yv H2 F2 s2 R2 o2 => ?_⟩
              exact hl F2 H2 _ yv d d' z Q R2.sub (R2.vw (o1.same s2) h4) (R2.vw o2 h5) h6 fun w F3 H3 xt dz => k w H3 F3 (s1.trans (s2.trans xt.f)) (R2.xt xt) dz
    · cases q
theorem l1_count {K : PySem.W.Frag} : L1M K (rCntI K) fCount := by
  intro F H x y d e z Q s hx hy hf k
  unfold fCount at hf
  split at hf
  · rename_i ds j
    split at hf
    · rename_i ns e1
      cases hf
      obtain ⟨a, vs, rfl, ha, hd⟩ := hx.list s
      rw [intsOf_eq e1] at hd
      have hv := dpAll_ints hd
      subst hv
      refine ⟨a, ns, j, rfl, by rw [hy.int], ha, k _ F H (Xt.refl s) (.int _)⟩
    · cases hf
  · cases hf
/-! ### list(range(a, b)), tuple(range(a, b)) -/
def rgOkB (a b : Int) : Bool := decide (a.natAbs ≤ 1000000 ∧ b.natAbs ≤ 1000000)
theorem rgOk_of {a b : Int} (h : rgOkB a b = true) : RgOk a b ∧ (b - a).toNat ≤ 2000000 := by
  have h := of_decide_eq_true h
  unfold RgOk
  have : (sizeLine : Nat) = sizeLine := rfl
  refine ⟨?_, by omega⟩
  have z := sizeLine_eq
  omega
/-- the two ends -/
abbrev SR := Ev → Option (Int × Int × Ev)
def sR1 (f : SE) : SR := fun ρ => match f ρ with
  | some (.d (.int n), ρ1) => some (0, n, ρ1)
  | _ => none
def sR2 (f g : SE) : SR := fun ρ => match f ρ with
  | some (.d (.int a), ρ1) => match g ρ1 with
    | some (.d (.int b), ρ2) => some (a, b, ρ2)
    | _ => none
  | _ => none
def rR (c : Co) (f : SR) : L2.St → Hp → (Int → Int → Hp → Prop) → Prop := fun σ H Q => ∃ F ρ a b ρ', Rl c F H σ ρ ∧ f ρ = some (a, b, ρ') ∧ ∀ H' F', Same F F' → Rl c F' H' σ ρ' → Q a b H'
structure ER (c : Co) (X : Cx) (e : Expr) (f : SR) : Prop where
  pr : PRg X e (rR c f)
theorem er_1 {a ce : Expr} {f : SE} (h : ∀ {t : TE}, PE X a t → PRg X ce (tRg1 t)) (ha : EO c X a f) : ER c X ce (sR1 f) := by
  refine ⟨fun pins s σ H Q I ⟨F, ρ, i, j, ρ', R, e, k⟩ => h ha.pe pins s σ H Q I ?_⟩
  unfold sR1 at e
  split at e
  · rename_i n ρ1 e1
    cases e
    refine ⟨F, ρ, _, _, R, e1, fun v H1 F1 s1 R1 o1 => ?_⟩
    cases o1
    exact ⟨_, rfl, k H1 F1 s1 R1⟩
  · cases e
theorem er_2 {a b ce : Expr} {f g : SE} (h : ∀ {t u : TE}, PE X a t → PE X b u → PRg X ce (tRg2 t u)) (ha : EO c X a f) (hb : EO c X b g) : ER c X ce (sR2 f g) := by
  refine ⟨fun pins s σ H Q I ⟨F, ρ, i, j, ρ', R, e, k⟩ => h ha.pe hb.pe pins s σ H Q I ?_⟩
  unfold sR2 at e
  split at e
  · rename_i n ρ1 e1
    split at e
    · rename_i m ρ2 e2
      cases e
      refine ⟨F, ρ, _, _, R, e1, fun v H1 F1 s1 R1 o1 => ⟨F1, ρ1, _, _, R1, e2, fun w H2 F2 s2 R2 o2 => ?_⟩⟩
      cases o1
      cases o2
      exact ⟨_, _, rfl, rfl, k H2 F2 (s1.trans s2) R2⟩
    · cases e
  · cases e
theorem rgV_dp {F : Hp} {K : PySem.W.Frag} (a b : Int) : DpAll K F (rgV a b) (rangeD a b) := by
  unfold rgV rangeD
  have e1 : (List.range (b - a).toNat).map (fun i => V.int (a + (i : Nat))) = ((List.range (b - a).toNat).map fun i => a + (i : Nat)).map V.int := by rw [List.map_map]; rfl
  have e2 : (List.range (b - a).toNat).map (fun i => PyData.int (a + (i : Nat))) = ((List.range (b - a).toNat).map fun i => a + (i : Nat)).map PyData.int := by rw [List.map_map]; rfl
  rw [e1, e2]
  exact ints_dpAll _
def sLstRg (f : SR) : SI := fun ρ => match f ρ with
  | some (a, b, ρ1) => if rgOkB a b then some (rangeD a b, ρ1) else none
  | none => none
theorem ef_lstRg {ce : Expr} {f : SR} (h : ∀ {t}, PRg X e t → PE X ce (tLstRg t)) (he : ER c X e f) : EF c X ce (sLstRg f) := by
  refine ⟨pe_imp (h he.pr) fun σ H Q ⟨F, ρ, ds, ρ', R, q, k⟩ => ?_⟩
  unfold sLstRg at q
  cases e1 : f ρ with
  | none => rw [e1] at q; cases q
  | some p =>
    obtain ⟨i, j, ρ1⟩ := p
    rw [e1] at q
    dsimp only at q
    split at q
    · rename_i hr
      cases q
      refine ⟨F, ρ, i, j, _, R, e1, fun H1 F1 s1 R1 => ⟨(rgOk_of hr).1, fun p hp => ?_⟩⟩
      obtain ⟨R2, f2⟩ := R1.fresh hp (rgV_dp (F := F1) i j)
      exact k p _ F1 s1 R2 f2
    · cases q
def sTupRg (f : SR) : SE := fun ρ => match f ρ with
  | some (a, b, ρ1) => if rgOkB a b then some (.d (.tuple (rangeD a b)), ρ1) else none
  | none => none
theorem eo_tupRg {ce : Expr} {f : SR} (h : ∀ {t}, PRg X e t → PE X ce (tTupRgF t)) (he : ER c X e f) : EO c X ce (sTupRg f) := by
  refine ⟨pe_imp (h he.pr) fun σ H Q ⟨F, ρ, ds, ρ', R, q, k⟩ => ?_⟩
  unfold sTupRg at q
  cases e1 : f ρ with
  | none => rw [e1] at q; cases q
  | some p =>
    obtain ⟨i, j, ρ1⟩ := p
    rw [e1] at q
    dsimp only at q
    split at q
    · rename_i hr
      cases q
      refine ⟨F, ρ, i, j, _, R, e1, fun H1 F1 s1 R1 => ⟨(rgOk_of hr).1, fun p ob hp hob => ?_⟩⟩
      have xt := Xt.new (o := .frz ob (.tup (rgV i j))) R1.sub hp hob
      exact k (.ref p) _ _ (s1.trans xt.f) (R1.xt xt) (dp_newT (R1.sub.free hp) (rgV_dp i j))
    · cases q
end
end PD

/-! Plain data: truth as a test; what stands at a def's name -/
namespace PD
open PySem PySem.Spec PyProof.Rows L2 GxR LG
section
variable {c : Co} {X : Cx} {a : Expr} {fa : SE}
theorem Vw.str {K : PySem.W.Frag} {F H : Hp} {x : V} {z : Str} (h : Vw K F H x (.str z)) : x = .str z := by
  rcases h with h | ⟨_, _, _, _, h, _⟩
  · cases h; rfl
  · cases h
theorem et_tr (ha : EO c X a fa) (hK : X.K = c.K := by rfl) (he : ∀ whole, isTrue a X.env whole = (do let v ← whole; standAt a.pos; holding [v] (truthy v)) := by intro _; rfl) : ET c X a (sTr fa) := by
  refine ⟨pt_imp (pt_truth ha.pe he) fun σ H Q ⟨F, ρ, b, ρ', R, e, k⟩ => ?_⟩
  unfold sTr at e
  cases e1 : fa ρ with
  | none => rw [e1] at e; cases e
  | some p =>
    obtain ⟨x, ρ1⟩ := p
    rw [e1] at e
    dsimp only at e
    cases e2 : res ρ1 x with
    | none => rw [e2] at e; cases e
    | some d =>
      rw [e2] at e
      dsimp only at e
      cases e3 : truth d with
      | none => rw [e3] at e; cases e
      | some bb =>
        rw [e3] at e
        cases e
        refine ⟨F, ρ, x, _, R, e1, fun v H1 F1 s1 R1 o1 => ⟨b, ?_, k H1 F1 s1 R1⟩⟩
        have vw := R1.vw o1 e2
        rw [hK]
        cases d with
        | none => cases e3; rw [vw.non]; exact rfl
        | bool t => cases e3; rw [vw.bool]; exact rfl
        | int t => cases e3; rw [vw.int]; exact rfl
        | list ds =>
          cases e3
          obtain ⟨p, vs, rfl, h1, h2⟩ := vw.list R1.sub
          refine .inl ⟨vs, h1, ?_⟩
          have := dpAll_len h2
          cases vs <;> cases ds <;> simp_all
        | tuple ds =>
          cases e3
          obtain ⟨p, vs, rfl, h1, h2⟩ := vw.tup R1.sub
          refine .inr (.inl ⟨vs, h1, ?_⟩)
          have := dpAll_len h2
          cases vs <;> cases ds <;> simp_all
        | _ => cases e3
end
theorem hu64 {A : Around} {k : Nat} (hr : Room k A) : A.units + 64 < cLine := by have := hr.un; omega
theorem hu65 {A : Around} {k : Nat} (hr : Room k A) : A.units + 65 < cLine := by have := hr.un; omega
/-- a value, then a new list: both names on one line -/
def sParQ (i j : Nat) (g : SE) (f : SI) : SS := fun ρ => match g ρ with
  | some (.d d, ρ1) => match f ρ1 with
    | none => none
    | some (ds, ρ2) => if i = j then none else some (.nx, (ρ2.set i (.dat d)).set j (.own ds))
  | _ => none
theorem es_parQ {c : Co} {X : Cx} {i j : Nat} {a b : Expr} {f : SI} {g : SE} {st : Stmt} (h : ∀ {t u : TE}, PE X a t → PE X b u → PS X st (tPar i j (tCons t (tCons u tNil)))) (ha : EO c X a g) (hb : EF c X b f) : ES c X st (sParQ i j g f) := by
  refine ⟨ps_imp (h ha.pe hb.pe) fun D σ H ⟨F, ρ, fl, ρ', R, e, k⟩ => ?_⟩
  unfold sParQ at e
  cases e1 : g ρ with
  | none => rw [e1] at e; cases e
  | some p =>
    obtain ⟨x, ρ1⟩ := p
    rw [e1] at e
    cases x with
    | s i => cases e
    | d d =>
      dsimp only at e
      cases e2 : f ρ1 with
      | none => rw [e2] at e; cases e
      | some q =>
        obtain ⟨ds, ρ2⟩ := q
        rw [e2] at e
        dsimp only at e
        split at e
        · cases e
        · rename_i hij
          cases e
          refine ⟨F, ρ, _, ρ1, R, e1, fun v H1 F1 s1 R1 o1 => ⟨F1, ρ1, ds, ρ2, R1, e2, fun a H2 F2 s2 R2 f2 => ?_⟩⟩
          have R5 := (R2.putOwn j f2).set (i := i) (dp_same s2 o1)
          rw [List.set_comm _ _ (Ne.symm hij), List.set_comm _ _ (Ne.symm hij)] at R5
          exact ⟨_, _, rfl, k _ H2 F2 (s1.trans s2) R5⟩
/-- name = [.. for ..] on one line -/
theorem es_lc {c : Co} {X : Cx} {st : Stmt} {i : Nat} {S : SS} {elt tg iter : Expr} {ifs : List Expr} {scope : Scope} {own : List (Str × Nat)} {fi : SI} {g : SG} {ks : List Nat} {t : STe} {f : SE}
    (hS : ∀ D σ H, rS c S D σ H → rF c (sComp fi g t f (own.map (·.2))) σ H fun x H1 => gName i x σ H1 D.nx)
    (h : ∀ {wi : TI} {g' : TG} {tt : TT} {te : TE}, PI X tg iter wi → (∀ (s : Shared) (H : Hp) (C : Addr) (cl : List (Str × Addr)) (fp : List Addr), PG (X.blk s H scope (compEnvC scope cl C X.env) fp) tg g') →
      (∀ (s : Shared) (H : Hp) (C : Addr) (cl : List (Str × Addr)) (fp : List Addr), PTs (X.blk s H scope (compEnvC scope cl C X.env) fp) ifs tt) → (∀ (s : Shared) (H : Hp) (C : Addr) (cl : List (Str × Addr)) (fp : List Addr), PE (X.blk s H scope (compEnvC scope cl C X.env) fp) elt te) → PS X st (tAsg (tLc wi g' tt te (own.map (·.2))) (gName i)))
    (hi : EI c X tg iter fi) (hks : ∀ i ∈ ks, i ∈ own.map (·.2))
    (hg : ∀ H0 F0 io (s : Shared) (H : Hp) (C : Addr) (cl : List (Str × Addr)) (fp : List Addr), EG (c.re H0 F0 io) (X.blk s H scope (compEnvC scope cl C X.env) fp) tg g ks)
    (ht : ∀ H0 F0 io (s : Shared) (H : Hp) (C : Addr) (cl : List (Str × Addr)) (fp : List Addr), ETs (c.re H0 F0 io) (X.blk s H scope (compEnvC scope cl C X.env) fp) ifs t)
    (he : ∀ H0 F0 io (s : Shared) (H : Hp) (C : Addr) (cl : List (Str × Addr)) (fp : List Addr), EO (c.re H0 F0 io) (X.blk s H scope (compEnvC scope cl C X.env) fp) elt f) : ES c X st S :=
  setlc_core hS (h hi.pi (fun s H C cl fp => any_g fun H0 F0 io => hg H0 F0 io s H C cl fp) (fun s H C cl fp => any_t fun H0 F0 io => ht H0 F0 io s H C cl fp) fun s H C cl fp => any_e fun H0 F0 io => he H0 F0 io s H C cl fp) fun _ _ _ hyp => comp_core hks hyp
/-- -1 -/
theorem eo_neg {c : Co} {X : Cx} (i : Int) {j : Nat} {p q : Pos} : EO c X (.UnaryOp .USub (.Constant (.int i) j p) q) (sC (.int (-i))) :=
  ⟨pe_imp (pe_un un_neg pe_int) fun σ H Q ⟨F, ρ, y, ρ', R, e, k⟩ => by
    cases e
    exact ⟨i, rfl, k _ H F (Same.refl _) R (.int _)⟩⟩
/-- the def st stands at the module's name x -/
structure Dk (K : PySem.W.Frag) (mg : Str → Option Value) (x : Str) (st : Stmt) (ps : List Str) (f : Addr) (fd : FuncData) : Prop where
  fn : Fun K x x st f fd
  mg : mg x = some (.ref f)
  b : Binds K fd ps []
/-- .. its code object at cA (a def with generator expressions) -/
structure Dg (K : PySem.W.Frag) (mg : Str → Option Value) (x : Str) (st : Stmt) (ps : List Str) (f : Addr) (fd : FuncData) (cA : Addr) : Prop where
  ex : ∃ (oc : Value) (od : Option Addr) (kV doc pm : Value) (an : Option Addr) (ct : Value) (osl : Array (Option Value)),
    fd = PySem.W.fnOf x x (defArgs st) (defBody st) (defScope st) .none kV doc pm an (.ref cA) ct ∧ K.lookup f = some ⟨oc, od, .func fd, osl⟩ ∧ PySem.W.codeIn K (.ref cA) x = true
  kp : PySem.W.keepIn K (.ref f) = true
  mg : mg x = some (.ref f)
  b : Binds K fd ps []
theorem Dg.pure {K : PySem.W.Frag} {T : List Addr} {P : Program} {w : World} {mg : Str → Option Value} {base : Heap} {x : Str} {st : Stmt} {ps : List Str} {f : Addr} {fd : FuncData} {cA : Addr} {N : List Str} {k : Nat} (D : Dg K mg x st ps f fd cA) (S : FnScope N ps (defScope st)) (g : SS) (hnp : ps.length ≤ N.length)
    (hb : ∀ (A : Around) (outer : List Env) (s : Shared) (H : Hp) (E : XK) (H0 F0 : Hp) (io : List Addr), Room k (A.deeper (envOfC x (defScope st) s.heap.objs.size f (.ref cA))) →
      ESs ⟨K, T, H0, F0, io⟩ (cxOf CX0 P w K mg base N x (defScope st) f (.ref cA) A outer s H E).nox (defBody st) g) :
    FnOk P w K mg base CX0 (k + 1) f fd ps (spP K T (fun ds => if ds.length = ps.length then bodyP g N.length ds else none)) := by
  obtain ⟨oc, od, kV, doc, pm, an, ct, osl, rfl, l, cd⟩ := D.ex
  exact fn_pureC l cd S g hnp hb
end PD

/-! Plain data: a written list times an int -/
namespace PD
open PySem PySem.Spec PyProof.Rows L2 GxR LG
def sRep (f : SI) (g : SE) : SI := fun ρ => match f ρ with
  | none => none
  | some (ds, ρ1) => match g ρ1 with
    | some (.d (.int k), ρ2) => if k.natAbs ≤ 1000 ∧ ds.length ≤ 1000 then some ((List.replicate k.toNat ds).flatten, ρ2) else none
    | _ => none
theorem dpAll_rep {K : PySem.W.Frag} {F : Hp} {vs : List V} {ds : List PyData} (h : DpAll K F vs ds) : ∀ k : Nat, DpAll K F (List.replicate k vs).flatten (List.replicate k ds).flatten
  | 0 => .nil
  | k + 1 => by
    rw [List.replicate_succ, List.replicate_succ, List.flatten_cons, List.flatten_cons]
    exact dpAll_app h (dpAll_rep h k)
theorem ef_rep {c : Co} {X : Cx} {a b : Expr} {pos : Pos} {f : SI} {g : SE} (ha : EF c X a f) (hb : ∀ H0 F0 io, EO (c.re H0 F0 io) X b g) : EF c X (.BinOp a .Mult b pos) (sRep f g) := by
  refine ⟨pe_imp (pe_op op_rep ha.pe (any_e hb)) fun σ H Q ⟨F, ρ, out, ρ', R, e, k⟩ => ?_⟩
  unfold sRep at e
  cases e1 : f ρ with
  | none => rw [e1] at e; cases e
  | some p =>
    obtain ⟨ds, ρ1⟩ := p
    rw [e1] at e
    dsimp only at e
    split at e
    · rename_i j ρ2 e2
      split at e
      · rename_i hk
        cases e
        refine ⟨F, ρ, ds, ρ1, R, e1, fun D H1 F1 s1 R1 f1 => ?_⟩
        obtain ⟨vs, hv, hd⟩ := f1.at_
        have f0 : c.F0 D = none := R1.mono.free f1.nf
        have nio : D ∉ c.io := fun z => (R1.ioh D z).1 f1.h0
        refine ⟨c.with D (.lst vs), rfl, rfl, F1, ρ1, _, _, R1.guard f1 hv f0, e2, fun v H3 F3 s3 R3 o3 => ?_⟩
        cases o3
        obtain ⟨R4, h4, n4, no4⟩ := R3.unguard f1.h0 f1.nt nio f0
        have hd3 := dpAll_same s3 hd
        have hl := dpAll_len hd
        have hm : vs.length * j.toNat ≤ 1000 * 1000 := Nat.mul_le_mul (by omega) (by omega)
        refine ⟨D, j, vs, rfl, rfl, h4, by omega, by omega, size_line (by omega), fun p hp => ?_⟩
        obtain ⟨R5, f5⟩ := R4.fresh hp (dpAll_rep hd3 j.toNat)
        exact k p _ F3 (s1.trans s3) R5 f5
      · cases e
    · cases e
/-- x, y = e, [..] as a tuple that is made and taken apart (one of the names is a cell) -/
theorem es_tupQ {c : Co} {X : Cx} {i j : Nat} {a b : Expr} {f : SI} {g : SE} {st : Stmt} (hK : X.K = c.K)
    (h : ∀ {t u : TE}, PE X a t → PE X b u → PS X st (tAsg (tTup (tCons t (tCons u tNil))) (gTup X.K 2 (gCons (gName i) (gCons (gName j) gNil))))) (ha : EO c X a g) (hb : EF c X b f) : ES c X st (sParQ i j g f) := by
  refine ⟨ps_imp (h ha.pe hb.pe) fun D σ H ⟨F, ρ, fl, ρ', R, e, k⟩ => ?_⟩
  unfold sParQ at e
  cases e1 : g ρ with
  | none => rw [e1] at e; cases e
  | some p =>
    obtain ⟨x, ρ1⟩ := p
    rw [e1] at e
    cases x with
    | s i => cases e
    | d d =>
      dsimp only at e
      cases e2 : f ρ1 with
      | none => rw [e2] at e; cases e
      | some q =>
        obtain ⟨ds, ρ2⟩ := q
        rw [e2] at e
        dsimp only at e
        split at e
        · cases e
        · rename_i hij
          cases e
          refine ⟨F, ρ, _, ρ1, R, e1, fun v H1 F1 s1 R1 o1 => ⟨F1, ρ1, ds, ρ2, R1, e2, fun D2 H2 F2 s2 R2 f2 => ⟨size_line (by simp), fun p hp => ?_⟩⟩⟩
          have xt := Xt.raw (o := .tup [v, .ref D2]) R2.sub hp
          have R3 := R2.xt xt
          obtain ⟨vs, hv, hd⟩ := f2.at_
          have f3 : Fresh c F2 (upd H2 p (.tup [v, .ref D2])) σ ρ2 D2 ds := ⟨⟨vs, by rw [upd_ne (ne_of_none hv hp)]; exact hv, hd⟩, f2.nf, f2.nt, f2.h0, f2.no⟩
          have R5 := (R3.putOwn j f3).set (i := i) (dp_same s2 o1)
          rw [List.set_comm _ _ (Ne.symm hij), List.set_comm _ _ (Ne.symm hij)] at R5
          exact ⟨p, _, rfl, .inl (.inl upd_same), rfl, _, _, rfl, _, _, rfl, rfl, k _ _ F2 (s1.trans s2) R5⟩
end PD

/-! Plain data: xs.count(x) of a tuple, too -/
namespace PD
open PySem PySem.Spec PyProof.Rows L2 GxR LG
section
variable {X : Cx}
def rCntT (K : PySem.W.Frag) : V → List V → Hp → VK → Prop := fun x xs H Q => ∃ (p : Addr) (ns : List Int) (k : Int), x = .ref p ∧ xs = [.int k] ∧ SqT K H p (ns.map V.int) ∧ Q (.int (ns.count k : Nat)) H
theorem mt_tcount : MtR X "tuple.count" (rCntT X.K) := by
  intro pins s σ H x args v us Q I rx rxs h
  obtain ⟨tp, ns, k, rfl, rfl, hs, wish⟩ := h
  cases rx
  obtain ⟨u, rfl, ru⟩ := rxs.one
  obtain ⟨t, rfl⟩ := ru
  obtain ⟨vals, rv, ⟨⟨cls, dct, data, sl⟩, ho, hc, n, hd⟩, _⟩ := I.tuple hs
  replace hc : cls = .type "tuple" := hc
  replace hd : data = .seq vals.toArray n := hd
  subst hc hd
  have hi := ints_of_vals rv
  have many : vals.toArray.toList.countP (eqk k) = ns.count k := eqk_count hi
  refine call_meets PySem.F.slot_tuple_count ⟨_, ho, rfl⟩ PySem.F.entry_tuple_count (PySem.F.args_tuple_count_2 _ _)
    (SeqAt.tuple_countAt tp vals.toArray n dct sl (.int k t) (eqk k)) ⟨ho, fun y hy => (eqk_gives hi y (by simpa using hy)).at _ _, ?_⟩
  refine ⟨.int (ns.count k : Nat), H, I.tok _, ⟨s.toks, ?_⟩, wish⟩
  rw [many]
end
/-- a tuple that is known to bear no dict -/
def TupD (K : PySem.W.Frag) (H : Hp) (a : Addr) : Prop := (∃ o vs, H a = some (.frz o (.tup vs)) ∧ PlT o) ∨ ∃ o, K.lookup a = some o ∧ o.cls = .type "tuple" ∧ PlT o
theorem TupD.is {X : Cx} {pins : List (Addr × Obj)} {σ : L2.St} {H : Hp} {s : Shared} {a : Addr} (I : Inv X pins σ H s) (h : TupD X.K H a) :
    s.TypeIs (.ref a) "tuple" ∧ ∃ o, s.heap.get? a = some o ∧ o.dict = none := by
  rcases h with ⟨o, vs, e, d⟩ | ⟨o, e, c, d⟩
  · obtain ⟨e1, _, us, _, pt⟩ := (show ObjOk X.prog X.w H s.heap a (.frz o (.tup vs)) from I.hok a _ e)
    exact ⟨pt.typeIs, o, e1, d.1⟩
  · have e1 := I.kIn a o e
    exact ⟨⟨o, e1, c⟩, o, e1, d.1⟩
/-- a method of a tuple -/
def tTM (K : PySem.W.Frag) (r : V → List V → Hp → VK → Prop) (to : TE) (t : TA) : TE := fun σ H Q => to σ H fun x H1 => (∃ a, x = .ref a ∧ TupD K H1 a) ∧ t σ H1 fun vs H2 => r x vs H2 Q
theorem pe_tm {X : Cx} {o e : Expr} {to : TE} {t : TA} {name : Str} {apos cpos : Pos} {id : String} {r : V → List V → Hp → VK → Prop} (slot : Slot "tuple" name id) (hty : typeOf (.builtin id) = pure (.type "method_descriptor")) (hm : MtR X id r) (ho : PE X o to) (ha : PA X [e] t)
    (hb : attributeBase o name X.env (eval o X.env) = eval o X.env := by rfl)
    (hf : ((backTo cpos (starEach [e] X.env)).all (fun x => !x.1) && (backToKw cpos (keywordEach [] X.env)).all (fun x => x.1.isSome)
      && decide ([e].length + ([] : List Keyword).length + (if ([] : List Keyword).isEmpty then 0 else 1) < 30)) = true := by rfl)
    (hl : (apos.endLine == cpos.line) = true := by rfl) (hs : starEach [e] X.env = (false, eval e X.env) :: starEach [] X.env := by rfl) (hp : (backTo cpos (starEach [] X.env)).any (·.1) = false := by rfl) :
    PE X (.Call (.Attribute o name apos) [e] [] cpos) (tTM X.K r to t) := by
  refine ⟨fun pins s σ H Q I h => ?_⟩
  refine wpAny_Call_method_late hb hf hl rfl (thn (ho.run pins s σ H _ I h) fun v s1 ⟨x, H1, I1, r1, ⟨a, ex, td⟩, q1⟩ => ?_)
  subst ex
  cases r1
  obtain ⟨h1, ob, h2, h3⟩ := td.is I1
  refine ⟨"tuple", id, PySem.F.plainAttrs_tuple, slot, hty, h1, fun b eb => ?_, ?_⟩
  · cases eb
    exact ⟨ob, h2, h3⟩
  · have args := ha.run cpos pins s1 σ H1 _ I1 q1
    rw [hs] at args ⊢
    refine Calls.callWith_builtin (by show (false || (backTo cpos (starEach [] X.env)).any (·.1)) = false; rw [hp] <;> rfl) (Calls.evalArgs_plain ?_)
    exact thn args fun us s2 ⟨vs, H2, I2, r2, q2⟩ => hm pins s2 σ H2 (.ref a) vs _ us Q I2 rfl r2 q2
def fCountT : PyData → PyData → Option PyData
  | .tuple ds, .int k => match intsOf ds with
    | some ns => some (.int (ns.count k : Nat))
    | none => none
  | _, _ => none
/-- a method of a tuple, one argument -/
def sM1T (f : PyData → PyData → Option PyData) (fo fa : SE) : SE := fun ρ => match fo ρ with
  | none => none
  | some (u, ρ1) => match res ρ1 u with
    | some (.tuple _) => match fa ρ1 with
      | none => none
      | some (v, ρ2) => match res ρ2 u, res ρ2 v with
        | some d, some e => (f d e).map fun z => (.d z, ρ2)
        | _, _ => none
    | _ => none
section
variable {c : Co} {X : Cx}
theorem eo_m1T {o ce : Expr} {fo fa : SE} {r : V → List V → Hp → VK → Prop} {f : PyData → PyData → Option PyData} (hK : X.K = c.K) (h : ∀ {to te : TE}, PE X o to → PE X e te → PE X ce (tTM X.K r to (tCons te tNil))) (hl : L1M c.K r f) (ho : EO c X o fo) (he : EO c X e fa) : EO c X ce (sM1T f fo fa) := by
  refine ⟨pe_imp (h ho.pe he.pe) fun σ H Q ⟨F, ρ, x, ρ', R, q, k⟩ => ?_⟩
  unfold sM1T at q
  cases h1 : fo ρ with
  | none => rw [h1] at q; cases q
  | some p =>
    obtain ⟨u, ρ1⟩ := p
    rw [h1] at q
    dsimp only at q
    split at q
    · rename_i ds0 h2
      cases h3 : fa ρ1 with
      | none => rw [h3] at q; cases q
      | some p =>
        obtain ⟨v, ρ2⟩ := p
        rw [h3] at q
        dsimp only at q
        cases h4 : res ρ2 u with
        | none => rw [h4] at q; cases q
        | some d =>
          cases h5 : res ρ2 v with
          | none => rw [h4, h5] at q; cases q
          | some d' =>
            rw [h4, h5] at q
            dsimp only at q
            cases h6 : f d d' with
            | none => rw [h6] at q; cases q
            | some z =>
              rw [h6] at q
              cases q
              refine ⟨F, ρ, u, ρ1, R, h1, fun xv H1 F1 s1 R1 o1 => ?_⟩
              have td : ∃ a, xv = .ref a ∧ TupD X.K H1 a := by
                rw [hK]
                rcases R1.vw o1 h2 with z | ⟨_, _, _, _, z, _⟩
                · cases z with
                  | tup hq _ =>
                    refine ⟨_, rfl, ?_⟩
                    rcases R1.tf.dict hq with ⟨ob, z1, z2⟩ | z1
                    · exact .inl ⟨ob, _, R1.sub _ _ z1, z2⟩
                    · exact .inr z1
                · cases z
              refine ⟨td, F1, ρ1, v, _, R1, h3, fun yv H2 F2 s2 R2 o2 => ?_⟩
              exact hl F2 H2 _ yv d d' z Q R2.sub (R2.vw (o1.same s2) h4) (R2.vw o2 h5) h6 fun w F3 H3 xt dz => k w H3 F3 (s1.trans (s2.trans xt.f)) (R2.xt xt) dz
    · cases q
theorem l1_countT {K : PySem.W.Frag} : L1M K (rCntT K) fCountT := by
  intro F H x y d e z Q s hx hy hf k
  unfold fCountT at hf
  split at hf
  · rename_i ds j
    split at hf
    · rename_i ns e1
      cases hf
      obtain ⟨a, vs, rfl, ha, hd⟩ := hx.tup s
      rw [intsOf_eq e1] at hd
      have hv := dpAll_ints hd
      subst hv
      refine ⟨a, ns, j, rfl, by rw [hy.int], ha, k _ F H (Xt.refl s) (.int _)⟩
    · cases hf
  · cases hf
/-- one or the other -/
def sOrE (f g : SE) : SE := fun ρ => match f ρ with
  | some r => some r
  | none => g ρ
theorem eo_or2 {e : Expr} {f g : SE} (hf : EO c X e f) (hg : EO c X e g) : EO c X e (sOrE f g) := by
  have h1 := hf.pe
  have h2 := hg.pe
  refine ⟨⟨fun pins s σ H Q I ⟨F, ρ, x, ρ', R, q, k⟩ => ?_⟩⟩
  unfold sOrE at q
  cases e1 : f ρ with
  | none =>
    rw [e1] at q
    exact h2.run pins s σ H Q I ⟨F, ρ, x, ρ', R, q, k⟩
  | some r =>
    rw [e1] at q
    cases q
    exact h1.run pins s σ H Q I ⟨F, ρ, x, ρ', R, e1, k⟩
end
end PD

/-! Plain data: x += e, -e, comb, perm, factorial, gcd, defs with defaults -/
namespace PD
open PySem PySem.Spec PyProof.Rows L2 GxR LG
/-! ### math -/
section
variable {X : Cx}
def rComb : List V → Hp → VK → Prop := fun vs H Q => ∃ a b : Int, vs = [.int a, .int b] ∧ 0 ≤ a ∧ 0 ≤ b ∧ a ≤ 18000 ∧ Q (.int (PySem.W.mcComb a b)) H
theorem cr_comb : CallR X (.builtin "math.comb") rComb := by
  intro pins s σ H vs us Q I r h
  obtain ⟨a, b, rfl, h1, h2, h3, q⟩ := h
  obtain ⟨t, u, rfl⟩ := Vals.int2 r
  exact PySem.W.mc_comb h1 h2 (by omega) (.inr h3) fun _ => ⟨.int _, H, I.tok _, ⟨_, rfl⟩, q⟩
def rPerm : List V → Hp → VK → Prop := fun vs H Q => ∃ a b : Int, vs = [.int a, .int b] ∧ 0 ≤ a ∧ 0 ≤ b ∧ a ≤ 18000 ∧ b ≤ 18000 ∧ Q (.int (PySem.W.mcPerm a b)) H
theorem cr_perm : CallR X (.builtin "math.perm") rPerm := by
  intro pins s σ H vs us Q I r h
  obtain ⟨a, b, rfl, h1, h2, h3, h4, q⟩ := h
  obtain ⟨t, u, rfl⟩ := Vals.int2 r
  exact PySem.W.mc_perm h1 h2 (by omega) (by omega) fun _ => ⟨.int _, H, I.tok _, ⟨_, rfl⟩, q⟩
def rFac : List V → Hp → VK → Prop := fun vs H Q => ∃ a : Int, vs = [.int a] ∧ 0 ≤ a ∧ a ≤ 18000 ∧ Q (.int ((Builtin.Math.factorialNat a.toNat : Nat) : Int)) H
theorem cr_fac : CallR X (.builtin "math.factorial") rFac := by
  intro pins s σ H vs us Q I r h
  obtain ⟨a, rfl, h1, h2, q⟩ := h
  obtain ⟨u, rfl, ru⟩ := vals1 r
  obtain ⟨t, rfl⟩ := ru
  exact PySem.W.mc_factorial h1 (by omega) fun _ => ⟨.int _, H, I.tok _, ⟨_, rfl⟩, q⟩
end
section
variable {K : PySem.W.Frag}
def fComb : List PyData → Option PyData
  | [.int a, .int b] => if 0 ≤ a ∧ 0 ≤ b ∧ a ≤ 18000 then some (.int (PySem.W.mcComb a b)) else none
  | _ => none
theorem ln_comb : LNok K rComb fComb := by
  intro F H vs ds z Q s hv hf k
  unfold fComb at hf
  split at hf
  · split at hf
    · rename_i hc
      cases hf
      obtain ⟨v, u, rfl, h1, h2⟩ := vw2 hv
      exact ⟨_, _, by rw [h1.int, h2.int], hc.1, hc.2.1, hc.2.2, k _ F H (Xt.refl s) (.int _)⟩
    · cases hf
  · cases hf
def fPerm : List PyData → Option PyData
  | [.int a, .int b] => if 0 ≤ a ∧ 0 ≤ b ∧ a ≤ 18000 ∧ b ≤ 18000 then some (.int (PySem.W.mcPerm a b)) else none
  | _ => none
theorem ln_perm : LNok K rPerm fPerm := by
  intro F H vs ds z Q s hv hf k
  unfold fPerm at hf
  split at hf
  · split at hf
    · rename_i hc
      cases hf
      obtain ⟨v, u, rfl, h1, h2⟩ := vw2 hv
      exact ⟨_, _, by rw [h1.int, h2.int], hc.1, hc.2.1, hc.2.2.1, hc.2.2.2, k _ F H (Xt.refl s) (.int _)⟩
    · cases hf
  · cases hf
def fFac : List PyData → Option PyData
  | [.int a] => if 0 ≤ a ∧ a ≤ 18000 then some (.int ((Builtin.Math.factorialNat a.toNat : Nat) : Int)) else none
  | _ => none
theorem ln_fac : LNok K rFac fFac := by
  intro F H vs ds z Q s hv hf k
  unfold fFac at hf
  split at hf
  · split at hf
    · rename_i hc
      cases hf
      obtain ⟨v, rfl, h1⟩ := vw1 hv
      exact ⟨_, by rw [h1.int], hc.1, hc.2, k _ F H (Xt.refl s) (.int _)⟩
    · cases hf
  · cases hf
def fGcd : List PyData → Option PyData
  | [.int a, .int b] => some (.int ((Nat.gcd a.natAbs b.natAbs : Nat) : Int))
  | _ => none
theorem ln_gcd : LNok K rGcd fGcd := by
  intro F H vs ds z Q s hv hf k
  unfold fGcd at hf
  split at hf
  · cases hf
    obtain ⟨v, u, rfl, h1, h2⟩ := vw2 hv
    exact ⟨_, _, by rw [h1.int, h2.int], k _ F H (Xt.refl s) (.int _)⟩
  · cases hf
end
/-! ### -e -/
def sNeg (f : SE) : SE := fun ρ => match f ρ with
  | some (.d (.int i), ρ1) => some (.d (.int (-i)), ρ1)
  | _ => none
section
variable {c : Co} {X : Cx}
theorem eo_negE {a : Expr} {pos : Pos} {f : SE} (ha : EO c X a f) : EO c X (.UnaryOp .USub a pos) (sNeg f) := by
  refine ⟨pe_imp (pe_un un_neg ha.pe) fun σ H Q ⟨F, ρ, y, ρ', R, e, k⟩ => ?_⟩
  unfold sNeg at e
  split at e
  · rename_i i ρ1 e1
    cases e
    refine ⟨F, ρ, _, _, R, e1, fun v H1 F1 s1 R1 o1 => ?_⟩
    cases o1
    exact ⟨i, rfl, k _ H1 F1 s1 R1 (.int _)⟩
  · cases e
/-! ### x += e -/
def sAug (i : Nat) (g : Int → Int → Int) (f : SE) : SS := fun ρ => match ρ[i]? with
  | some (.dat (.int a)) => match f ρ with
    | some (.d (.int b), ρ1) => some (.nx, ρ1.set i (.dat (.int (g a b))))
    | _ => none
  | _ => none
theorem es_aug {i : Nat} {g : Int → Int → Int} {f : SE} {e : Expr} {st : Stmt} (h : ∀ {te : TE}, PE X e te → PS X st (tAug i te (rI0 fun a b => .int (g a b)))) (he : EO c X e f) : ES c X st (sAug i g f) := by
  refine ⟨ps_imp (h he.pe) fun D σ H ⟨F, ρ, fl, ρ', R, q, k⟩ => ?_⟩
  unfold sAug at q
  split at q
  · rename_i a e0
    split at q
    · rename_i b ρ1 e1
      cases q
      obtain ⟨x, ex, dx⟩ := R.sl i _ e0
      cases dx
      refine ⟨_, vAt_eq ex, F, ρ, _, _, R, e1, fun v H1 F1 s1 R1 o1 => ?_⟩
      cases o1
      exact ⟨a, b, rfl, rfl, k _ H1 F1 s1 (R1.set (.int _))⟩
    · cases q
  · cases q
end
/-! ### a def with defaults, all of its arguments given -/
structure Dd (K : PySem.W.Frag) (mg : Str → Option Value) (x : Str) (st : Stmt) (ps : List Str) (f : Addr) (fd : FuncData) (dvs : List V) : Prop where
  ex : ∃ (oc : Value) (od : Option Addr) (dV kV doc pm : Value) (an : Option Addr) (cdv ct : Value) (osl : Array (Option Value)),
    fd = PySem.W.fnOf x x (defArgs st) (defBody st) (defScope st) dV kV doc pm an cdv ct ∧ K.lookup f = some ⟨oc, od, .func fd, osl⟩ ∧ PySem.W.codeIn K cdv x = true
  kp : PySem.W.keepIn K (.ref f) = true
  mg : mg x = some (.ref f)
  b : Binds K fd ps []
  bd : ∃ ds, Vals dvs ds ∧ Binds K fd ps ds
theorem Dd.pure {K : PySem.W.Frag} {T : List Addr} {P : Program} {w : World} {mg : Str → Option Value} {base : Heap} {x : Str} {st : Stmt} {ps : List Str} {f : Addr} {fd : FuncData} {N : List Str} {k : Nat} {dvs : List V} (D : Dd K mg x st ps f fd dvs) (S : FnScope N ps (defScope st)) (g : SS) (hnp : ps.length ≤ N.length)
    (hb : ∀ (cdv : Value) (A : Around) (outer : List Env) (s : Shared) (H : Hp) (E : XK) (H0 F0 : Hp) (io : List Addr), Room k (A.deeper (envOfC x (defScope st) s.heap.objs.size f cdv)) →
      ESs ⟨K, T, H0, F0, io⟩ (cxOf CX0 P w K mg base N x (defScope st) f cdv A outer s H E).nox (defBody st) g) :
    FnOk P w K mg base CX0 (k + 1) f fd ps (spP K T (fun ds => if ds.length = ps.length then bodyP g N.length ds else none)) := by
  obtain ⟨oc, od, dV, kV, doc, pm, an, cdv, ct, osl, rfl, l, cd⟩ := D.ex
  exact fn_pureC l cd S g hnp (hb cdv)
theorem withDd {Z : Prop} {dvs : List V} {K : PySem.W.Frag} {h : Heap} {mg : Str → Option Value} {x : Str} {st : Stmt} {ps : List Str} {f Td : Addr} {oc kV doc pm cd ct : Value} {od an : Option Addr} {osl : Array (Option Value)} {ob : Obj} {items : Array Value} {n : Nat} (X : K.In h) (G : h.Ns mainGlobals mg)
    (a : PySem.W.nsIn K mainGlobals x = some (some (.ref f))) (l : K.lookup f = some ⟨oc, od, .func (PySem.W.fnOf x x (defArgs st) (defBody st) (defScope st) (.ref Td) kV doc pm an cd ct), osl⟩) (c : PySem.W.codeIn K cd x = true) (k : PySem.W.keepIn K (.ref f) = true)
    (lt : K.lookup Td = some ob) (hs : ob.data = .seq items n)
    (b : ∀ (kV doc pm : Value) (an : Option Addr) (cdv ct : Value) (us : List Value), us.length = ps.length → ∃ g, bindArgs (PySem.W.fnOf x x (defArgs st) (defBody st) (defScope st) (.ref Td) kV doc pm an cdv ct) ⟨us, []⟩ = seqItems? (.ref Td) >>= g ∧ g (some items) = pure (ps.zip us))
    (hv : Vals dvs items.toList)
    (b2 : ∀ (kV doc pm : Value) (an : Option Addr) (cdv ct : Value) (us : List Value), (us ++ items.toList).length = ps.length → ∃ g, bindArgs (PySem.W.fnOf x x (defArgs st) (defBody st) (defScope st) (.ref Td) kV doc pm an cdv ct) ⟨us, []⟩ = seqItems? (.ref Td) >>= g ∧ g (some items) = pure (ps.zip (us ++ items.toList)))
    (next : ∀ f fd, Dd K mg x st ps f fd dvs → Z) : Z := by
  refine next f _ ⟨⟨oc, od, .ref Td, kV, doc, pm, an, cd, ct, osl, rfl, l, c⟩, k, PySem.W.mg_of X G a, fun s us KX hl => ?_, ⟨_, hv, fun s us KX hl => ?_⟩⟩
  rotate_left
  · obtain ⟨g, h1, h2⟩ := b2 kV doc pm an cd ct us hl
    exact PySem.W.binds_K KX rfl lt hs h1 h2
  rw [List.append_nil] at hl ⊢
  obtain ⟨g, h1, h2⟩ := b kV doc pm an cd ct us hl
  exact PySem.W.binds_K KX rfl lt hs h1 h2
end PD

/-! Plain data: isinstance of two classes, x.extend(t), a def that calls itself -/
namespace PD
open PySem PySem.Spec PyProof.Rows L2 GxR LG
section
variable {c : Co} {X : Cx}
def sIsi2 (T U : String) (f : SE) : SE := fun ρ => match f ρ with
  | some (x, ρ1) => (res ρ1 x).map fun d => (.d (.bool (isSub (tyName d) T || isSub (tyName d) U)), ρ1)
  | none => none
theorem eo_isi2 {a ce : Expr} {T U : String} {f : SE} (hK : X.K = c.K) (hT : T ∈ ["int", "bool", "str", "list", "tuple"]) (hU : U ∈ ["int", "bool", "str", "list", "tuple"])
    (h : ∀ {te : TE}, PE X a te → PE X ce (tCB (rIsiT X.K) (tCons te (tCons (tTup (tCons (tC (.ty T)) (tCons (tC (.ty U)) tNil))) tNil)))) (ha : EO c X a f) : EO c X ce (sIsi2 T U f) := by
  refine ⟨pe_imp (h ha.pe) fun σ H Q ⟨F, ρ, x, ρ', R, e, k⟩ => ?_⟩
  unfold sIsi2 at e
  cases e1 : f ρ with
  | none => rw [e1] at e; cases e
  | some p =>
    obtain ⟨y, ρ1⟩ := p
    rw [e1] at e
    obtain ⟨d, e2, e3⟩ := Option.map_eq_some_iff.mp e
    cases e3
    refine ⟨F, ρ, y, _, R, e1, fun v H1 F1 s1 R1 o1 => ?_⟩
    refine ⟨by show 2 ≤ sizeLine; rw [sizeLine_eq]; omega, fun p hp => ?_⟩
    have dd := (R1.vw o1 e2).dp R1.sub
    have xt := Xt.raw (o := .tup [.ty T, .ty U]) R1.sub hp
    have dd2 := dp_same xt.h dd
    have q1 := kit_all (K := c.K) hT d (dp_nodict dd)
    have q2 := kit_all (K := c.K) hU d (dp_nodict dd)
    rw [hK]
    refine ⟨v, p, [.ty T, .ty U], _, [.type T, .type U], _, rfl, upd_same, .cons (.ty T) (.cons (.ty U) .nil), dp_ty dd2, ?_, k _ _ F1 s1 (R1.xt xt) (.bl _)⟩
    unfold PySem.W.kitAny
    rw [q1]
    cases isSub (tyName d) T with
    | true => rfl
    | false =>
      dsimp only
      unfold PySem.W.kitAny
      rw [q2]
      cases isSub (tyName d) U <;> rfl
end
section
variable {X : Cx}
/-- l.extend(t), t a tuple that bears nothing else -/
def rExtT (K : PySem.W.Frag) : V → List V → Hp → VK → Prop := fun x vs H Q => ∃ l b xs zs, x = .ref l ∧ vs = [.ref b] ∧ H l = some (.lst xs) ∧ SqT K H b zs ∧
  ((∃ o ws, H b = some (.frz o (.tup ws)) ∧ PlT o) ∨ ∃ o, K.lookup b = some o ∧ o.cls = .type "tuple" ∧ PlT o) ∧ xs.length + zs.length ≤ 1000000 ∧ Q .non (upd H l (.lst (xs ++ zs)))
theorem mt_extT : MtR X "list.extend" (rExtT X.K) := by
  intro pins s σ H x vs v us Q I rx rv h
  obtain ⟨l, b, xs, zs, rfl, rfl, hH, hB, hp, hz, wish⟩ := h
  cases rx
  obtain ⟨u, rfl, ru⟩ := rv.one
  cases ru
  obtain ⟨_, its, n, r, hl, el⟩ := I.lstM hH
  obtain ⟨items, r2, ⟨ob, eb, hc, n2, hd⟩, _⟩ := I.tuple hB
  have pl : PlT ob := by
    rcases hp with ⟨o, ws, e, d⟩ | ⟨o, e, _, d⟩
    · have e2 := (show ObjOk X.prog X.w H s.heap b (.frz o (.tup ws)) from I.hok b _ e).1
      rw [eb] at e2
      cases e2
      exact d
    · have e2 := I.kIn b o e
      rw [eb] at e2
      cases e2
      exact d
  obtain ⟨cls, dct, data, sl⟩ := ob
  obtain ⟨p1, p2⟩ := pl
  replace hc : cls = .type "tuple" := hc
  replace hd : data = .seq items.toArray n2 := hd
  replace p1 : dct = none := p1
  replace p2 : sl = #[] := p2
  subst hc hd p1 p2
  have l2 := r2.length
  have line := sizeLine_eq
  have fits : its.toArray.size + items.toArray.size ≤ sizeLine := by rw [List.size_toArray, List.size_toArray]; omega
  have short : ¬ (!its.toArray.isEmpty && Builtin.List.listTooLong (its.toArray.size + items.toArray.size)) = true := by
    rw [notLongL fits, Bool.and_false]
    exact Bool.false_ne_true
  refine call_meets F.slot_list_extend ⟨_, el, rfl⟩ F.entry_list_extend (F.args_list_extend_2 _ _)
    (AutoSeq1.list_extend_list_tuple_0 l its.toArray n b items.toArray n2 short (by rw [List.size_toArray]; omega) (by omega)) ⟨el, eb, ?_⟩
  refine ⟨.non, _, I.lset (its' := its ++ items) hH el (by simp) (r.append r2) ?_, rfl, wish⟩
  rw [List.length_append]
  omega
end
section
variable {c : Co} {X : Cx}
def sExtT (i : Nat) (f : SE) : SS := fun ρ => match cont? ρ i with
  | none => none
  | some _ => match f ρ with
    | some (.d (.tuple ys), ρ1) => match cont? ρ1 i with
      | some ds => if ds.length + ys.length ≤ 1000000 then some (.nx, setCont ρ1 i (ds ++ ys)) else none
      | none => none
    | _ => none
theorem es_extT (i : Nat) {f : SE} {e : Expr} {st : Stmt} (hK : X.K = c.K) (h : ∀ {te : TE}, PE X e te → PS X st (tDrop (tBM X.K "list" (rExtT X.K) (tVar i) (tCons te tNil)))) (he : EO c X e f) : ES c X st (sExtT i f) := by
  refine ⟨ps_imp (h he.pe) fun D σ H ⟨F, ρ, fl, ρ', R, e, k⟩ => ?_⟩
  unfold sExtT at e
  cases e0 : cont? ρ i with
  | none => rw [e0] at e; cases e
  | some rs0 =>
    rw [e0] at e
    dsimp only at e
    obtain ⟨r, ws, v0, v1, v2, v3, v4⟩ := cont_at R e0
    split at e
    · rename_i ys ρ1 e1
      cases e2 : cont? ρ1 i with
      | none => rw [e2] at e; cases e
      | some ds =>
        rw [e2] at e
        dsimp only at e
        split at e
        · rename_i hn
          cases e
          refine ⟨.ref r, vAt_eq v0, .inl ⟨rfl, ws, .inl (.inl v1)⟩, F, ρ, _, ρ1, R, e1, fun v H1 F1 s1 R1 o1 => ?_⟩
          obtain ⟨r1, ws1, w0, w1, w2, w3, w4⟩ := cont_at R1 e2
          rw [v0] at w0
          cases w0
          cases o1 with
          | tup hq hd =>
            rw [hK]
            refine ⟨r, _, ws1, _, rfl, rfl, w1, sqT_same R1.sub hq, ?_, by rw [dpAll_len w2, dpAll_len hd]; exact hn, k σ _ F1 s1 (R1.put e2 v0 w3 w4 (dpAll_app w2 hd))⟩
            rcases R1.tf.dict hq with ⟨o, z1, z2⟩ | z1
            · exact .inl ⟨o, _, R1.sub _ _ z1, z2⟩
            · exact .inr z1
        · cases e
    · cases e
end
/-- nothing is promised -/
theorem ok_none {K : PySem.W.Frag} {T : List Addr} {P : Program} {w : World} {mg : Str → Option Value} {base : Heap} {x qual : Str} {st : Stmt} {f : Addr} {fd : FuncData} {N ps : List Str} (Fu : Fun K x qual st f fd) (S : FnScope N ps (defScope st)) :
    FnOk P w K mg base CX0 1 f fd ps (spP K T fun _ => none) := by
  refine Fu.ok S (fun vs H Q E h => ?_) (fun cdv A outer s H vs Q E hr h => ?_)
  · obtain ⟨F, ds, d, _, _, _, _, e, _⟩ := h
    cases e
  · obtain ⟨F, ds, d, _, _, _, _, e, _⟩ := h
    cases e
end PD

/-! zip of two sequences, each a tuple or a list -/
namespace ZIP
open PySem PySem.Spec PyProof.Rows L2
/-- the class of a sequence, and of what walks it: a tuple (true), a list (false) -/
def nm : Bool → String | true => "tuple" | false => "list"
def nmI : Bool → String | true => "tuple_iterator" | false => "list_iterator"
def SeqK (k : Bool) (h : Heap) (a : Addr) (items : Array Value) : Prop := ∃ o, h.get? a = some o ∧ o.cls = .type (nm k) ∧ ∃ n, o.data = .seq items n
def ItrK (k : Bool) (h : Heap) (a l : Addr) (i : Nat) : Prop := ∃ o, h.get? a = some o ∧ o.cls = .type (nmI k) ∧ o.data = .fields #[.ref l, .int i 0]
theorem SeqK.at {k : Bool} {h h' : Heap} {a : Addr} {items : Array Value} (x : SeqK k h a items) (e : ∀ o, h.get? a = some o → h'.get? a = some o) : SeqK k h' a items := let ⟨o, ho, r⟩ := x; ⟨o, e _ ho, r⟩
theorem ItrK.at {k : Bool} {h h' : Heap} {a l : Addr} {i : Nat} (x : ItrK k h a l i) (e : ∀ o, h.get? a = some o → h'.get? a = some o) : ItrK k h' a l i := let ⟨o, ho, r⟩ := x; ⟨o, e _ ho, r⟩
theorem SeqK.ext {k : Bool} {h h' : Heap} {a b : Addr} {items : Array Value} (x : SeqK k h a items) (hs : Heap.ExtBut b h h') (n : a ≠ b) : SeqK k h' a items := x.at fun _ e => hs _ _ n e
theorem ItrK.ext {k : Bool} {h h' : Heap} {a b l : Addr} {i : Nat} (x : ItrK k h a l i) (hs : Heap.ExtBut b h h') (n : a ≠ b) : ItrK k h' a l i := x.at fun _ e => hs _ _ n e
theorem ItrK.lt {k : Bool} {h : Heap} {a l : Addr} {i : Nat} (x : ItrK k h a l i) : a < h.objs.size := let ⟨_, ho, _⟩ := x; Heap.lt_size ho
theorem SeqK.lt {k : Bool} {h : Heap} {a : Addr} {items : Array Value} (x : SeqK k h a items) : a < h.objs.size := let ⟨_, ho, _⟩ := x; Heap.lt_size ho
section
variable {prog : Program} {w : World} {A : Around} {E : Value → Shared → Prop} {s : Shared}
theorem next_item {it l : Addr} {i : Nat} {items : Array Value} {x : Value} {Q : Value → Shared → Prop} : ∀ {k : Bool}, ItrK k s.heap it l i → SeqK k s.heap l items → items[i]? = some x →
    (∀ h', ItrK k h' it l (i + 1) → Heap.SameBut it s.heap h' → Q x { s with heap := h' }) → wpAny (model prog w) A (Builtin.SmallTypes.nextOf (.ref it)) Q E s
  | true, hit, hl, hx, hQ => RZ.nextOf_tuple_item hit hl hx hQ
  | false, hit, hl, hx, hQ => wpAny_nextOf_list_item hit hl hx hQ
theorem next_end {it l : Addr} {i : Nat} {items : Array Value} {Q : Value → Shared → Prop} (hh : A.handled = none) : ∀ {k : Bool}, ItrK k s.heap it l i → SeqK k s.heap l items → items[i]? = none →
    (∀ h' e, Heap.ExtBut it s.heap h' → (∃ o, h'.get? e = some o ∧ o.cls = .type "StopIteration") → E (.ref e) { s with heap := h' }) → wpAny (model prog w) A (Builtin.SmallTypes.nextOf (.ref it)) Q E s
  | true, hit, hl, hx, hE => RZ.nextOf_tuple_end hh hit hl hx hE
  | false, hit, hl, hx, hE => wpAny_nextOf_list_end hh hit hl hx hE
theorem zip_item {k1 k2 : Bool} {z TI TO i1 i2 l1 l2 : Addr} {n1 n2 : Nat} {xs ys : Array Value} {x y a b : Value} {Q : Value → Shared → Prop} (D : ZipApart z TI TO i1 i2 l1 l2)
    (hz : IsZip s.heap z TI TO .none) (hTI : IsPair s.heap TI (.ref i1) (.ref i2)) (hTO : IsPair s.heap TO a b)
    (h1 : ItrK k1 s.heap i1 l1 n1) (h2 : ItrK k2 s.heap i2 l2 n2) (q1 : SeqK k1 s.heap l1 xs) (q2 : SeqK k2 s.heap l2 ys) (hx : xs[n1]? = some x) (hy : ys[n2]? = some y)
    (hQ : ∀ h', IsZip h' z TI TO (rawInt s.heap.objs.size) → IsPair h' TO x y → ItrK k1 h' i1 l1 (n1 + 1) → ItrK k2 h' i2 l2 (n2 + 1) → IsPair h' s.heap.objs.size x y → h'.objs.size = s.heap.objs.size + 1 →
      (∀ c o, c ≠ z → c ≠ TO → c ≠ i1 → c ≠ i2 → s.heap.get? c = some o → h'.get? c = some o) → Q (.ref s.heap.objs.size) { s with heap := h' }) :
    wpAny (model prog w) A (Builtin.«zip.__next__» ⟨[.ref z], []⟩) (fun fin s' => ∃ v, fin = .done (.ret v) ∧ Q v s') E s := by
  show wpAny _ _ (field (.ref z) 2 >>= _) _ _ _
  refine wpAny_bind (wpAny_field hz rfl (x := .bool false) rfl ?_)
  show wpAny _ _ (field (.ref z) 3 >>= _) _ _ _
  refine wpAny_bind (wpAny_field hz rfl (x := .ref TI) rfl (wpAny_bind (wpAny_seqItems hTI rfl ?_)))
  show wpAny _ _ (Builtin.SmallTypes.ownedTupleIsFree (.ref z) >>= _) _ _ _
  refine wpAny_bind ?_
  unfold Builtin.SmallTypes.ownedTupleIsFree
  refine wpAny_bind (wpAny_field hz rfl (x := .none) rfl (wpAny_pure ?_))
  simp only [if_true]
  refine wpAny_bind (wpAny_rule (wpAny_bind (wpAny_field hz rfl (x := .ref TO) rfl (wpAny_bind (wpAny_setField_rec hz (by simp) fun Ha za sa => ?_)))))
  replace za : IsZip Ha z TI TO .ellipsis := za
  refine wpAny_bind ?_
  simp only [List.zipIdx_cons, List.zipIdx_nil, List.forIn_cons, List.forIn_nil]
  refine wpAny_bind (wpAny_bind (wpAny_onRaise ?_))
  show wpAny _ _ (Builtin.SmallTypes.nextOf (.ref i1) >>= _) _ _ _
  refine wpAny_bind (next_item (h1.ext sa.extBut D.i1z) (q1.ext sa.extBut D.l1z) hx fun Hb ib sb => wpAny_pure ?_)
  have ob : IsPair Hb TO a b := sb.extBut _ _ D.TOi1 (sa.extBut _ _ D.TOz hTO)
  refine wpAny_bind (wpAny_seqItems ob rfl (wpAny_bind (wpAny_updateSeq_pair ob fun Hc oc sc => ?_)))
  replace oc : IsPair Hc TO x b := oc
  refine wpAny_bind (wpAny_letGo (wpAny_pure (wpAny_bind (wpAny_bind (wpAny_onRaise ?_)))))
  show wpAny _ _ (Builtin.SmallTypes.nextOf (.ref i2) >>= _) _ _ _
  refine wpAny_bind (next_item (((h2.ext sa.extBut D.i2z).ext sb.extBut D.i12.symm).ext sc.extBut D.TOi2.symm)
    (((q2.ext sa.extBut D.l2z).ext sb.extBut D.l2i1).ext sc.extBut D.l2TO) hy fun Hd id_ sd => wpAny_pure ?_)
  have od : IsPair Hd TO x b := sd.extBut _ _ D.TOi2 oc
  refine wpAny_bind (wpAny_seqItems od rfl (wpAny_bind (wpAny_updateSeq_pair od fun He oe se => ?_)))
  replace oe : IsPair He TO x y := oe
  refine wpAny_bind (wpAny_letGo (wpAny_pure (wpAny_pure (wpAny_bind (wpAny_seqItems oe rfl (wpAny_bind (wpAny_newTuple ?_)))))))
  have size : He.objs.size = s.heap.objs.size := by rw [se.1, sd.1, sc.1, sb.1, sa.1]
  have ze : IsZip He z TI TO .ellipsis := se.extBut _ _ D.TOz.symm (sd.extBut _ _ D.i2z.symm (sc.extBut _ _ D.TOz.symm (sb.extBut _ _ D.i1z.symm za)))
  have keep : ∀ c o, c ≠ z → c ≠ TO → c ≠ i1 → c ≠ i2 → s.heap.get? c = some o → He.get? c = some o := fun c o c1 c2 c3 c4 e =>
    se.extBut _ _ c2 (sd.extBut _ _ c4 (sc.extBut _ _ c2 (sb.extBut _ _ c3 (sa.extBut _ _ c1 e))))
  have ie : ItrK k1 He i1 l1 (n1 + 1) := ((ib.ext sc.extBut D.TOi1.symm).ext sd.extBut D.i12).ext se.extBut D.TOi1.symm
  have je : ItrK k2 He i2 l2 (n2 + 1) := id_.ext se.extBut D.TOi2.symm
  have zlt : z < He.objs.size := Heap.lt_size ze
  show wpAny _ _ (Builtin.SmallTypes.ownedTupleHandOut (.ref z) (.ref He.objs.size) >>= _) _ _ _
  refine wpAny_bind ?_
  unfold Builtin.SmallTypes.ownedTupleHandOut
  have zf : IsZip (He.push { cls := .type "tuple", data := .seq #[x, y] }) z TI TO .ellipsis := Heap.get?_push_of_some _ ze
  refine wpAny_bind (wpAny_setField_rec zf (by simp) fun Hg zg sg => ?_)
  replace zg : IsZip Hg z TI TO (rawInt He.objs.size) := zg
  refine wpAny_setField_rec zg (by simp) fun Hh zh sh => ?_
  replace zh : IsZip Hh z TI TO (rawInt He.objs.size) := zh
  have up : ∀ c o, c ≠ z → He.get? c = some o → Hh.get? c = some o := fun c o c1 e => sh.extBut _ _ c1 (sg.extBut _ _ c1 (Heap.get?_push_of_some _ e))
  have tH : IsPair Hh He.objs.size x y := sh.extBut _ _ (Nat.ne_of_gt zlt) (sg.extBut _ _ (Nat.ne_of_gt zlt) (Heap.get?_push_size _ rfl))
  have zs : Hh.objs.size = He.objs.size + 1 := by rw [sh.1, sg.1, Heap.size_push]
  rw [size] at zh tH zs
  refine wpAny_pure ⟨_, rfl, ?_⟩
  show Q (.ref He.objs.size) _
  rw [size]
  exact hQ Hh zh (up _ _ D.TOz oe) (ie.at fun o e => up _ o D.i1z e) (je.at fun o e => up _ o D.i2z e) tH zs fun c o c1 c2 c3 c4 e => up c o c1 (keep c o c1 c2 c3 c4 e)
theorem zip_end {k1 k2 : Bool} {z TI TO i1 i2 l1 l2 : Addr} {n1 n2 : Nat} {xs ys : Array Value} {a b : Value} {Q : Fin → Shared → Prop} (hh : A.handled = none) (D : ZipApart z TI TO i1 i2 l1 l2)
    (hz : IsZip s.heap z TI TO .none) (hTI : IsPair s.heap TI (.ref i1) (.ref i2)) (hTO : IsPair s.heap TO a b)
    (h1 : ItrK k1 s.heap i1 l1 n1) (h2 : ItrK k2 s.heap i2 l2 n2) (q1 : SeqK k1 s.heap l1 xs) (q2 : SeqK k2 s.heap l2 ys) (hend : xs[n1]? = none ∨ ys[n2]? = none)
    (hE : ∀ h' e, (∀ c o, c ≠ z → c ≠ TO → c ≠ i1 → c ≠ i2 → s.heap.get? c = some o → h'.get? c = some o) → (∃ o, h'.get? e = some o ∧ o.cls = .type "StopIteration") → E (.ref e) { s with heap := h' }) :
    wpAny (model prog w) A (Builtin.«zip.__next__» ⟨[.ref z], []⟩) Q E s := by
  show wpAny _ _ (field (.ref z) 2 >>= _) _ _ _
  refine wpAny_bind (wpAny_field hz rfl (x := .bool false) rfl ?_)
  show wpAny _ _ (field (.ref z) 3 >>= _) _ _ _
  refine wpAny_bind (wpAny_field hz rfl (x := .ref TI) rfl (wpAny_bind (wpAny_seqItems hTI rfl ?_)))
  show wpAny _ _ (Builtin.SmallTypes.ownedTupleIsFree (.ref z) >>= _) _ _ _
  refine wpAny_bind ?_
  unfold Builtin.SmallTypes.ownedTupleIsFree
  refine wpAny_bind (wpAny_field hz rfl (x := .none) rfl (wpAny_pure ?_))
  simp only [if_true]
  refine wpAny_bind (wpAny_rule (wpAny_bind (wpAny_field hz rfl (x := .ref TO) rfl (wpAny_bind (wpAny_setField_rec hz (by simp) fun Ha za sa => ?_)))))
  replace za : IsZip Ha z TI TO .ellipsis := za
  refine wpAny_bind ?_
  simp only [List.zipIdx_cons, List.zipIdx_nil, List.forIn_cons, List.forIn_nil]
  refine wpAny_bind (wpAny_bind (wpAny_onRaise ?_))
  show wpAny _ _ (Builtin.SmallTypes.nextOf (.ref i1) >>= _) _ _ _
  cases hx : xs[n1]? with
  | none =>
    refine wpAny_bind (next_end hh (h1.ext sa.extBut D.i1z) (q1.ext sa.extBut D.l1z) hx fun Hb e sb he => ?_)
    obtain ⟨oe, hoe, hce⟩ := he
    have zb : IsZip Hb z TI TO .ellipsis := sb _ _ D.i1z.symm za
    have ne : e ≠ z := fun x => by subst x; rw [zb] at hoe; cases hoe; simp at hce
    exact wpAny_setField_rec zb (by simp) fun Hc _ sc => hE Hc e (fun c o c1 _ c3 _ x => sc.extBut _ _ c1 (sb _ _ c3 (sa.extBut _ _ c1 x))) ⟨oe, sc.extBut _ _ ne hoe, hce⟩
  | some x =>
    have hy : ys[n2]? = none := by rcases hend with h | h; rw [hx] at h; cases h; exact h
    refine wpAny_bind (next_item (h1.ext sa.extBut D.i1z) (q1.ext sa.extBut D.l1z) hx fun Hb ib sb => wpAny_pure ?_)
    have ob : IsPair Hb TO a b := sb.extBut _ _ D.TOi1 (sa.extBut _ _ D.TOz hTO)
    refine wpAny_bind (wpAny_seqItems ob rfl (wpAny_bind (wpAny_updateSeq_pair ob fun Hc oc sc => ?_)))
    refine wpAny_bind (wpAny_letGo (wpAny_pure (wpAny_bind (wpAny_bind (wpAny_onRaise ?_)))))
    show wpAny _ _ (Builtin.SmallTypes.nextOf (.ref i2) >>= _) _ _ _
    refine wpAny_bind (next_end hh (((h2.ext sa.extBut D.i2z).ext sb.extBut D.i12.symm).ext sc.extBut D.TOi2.symm)
      (((q2.ext sa.extBut D.l2z).ext sb.extBut D.l2i1).ext sc.extBut D.l2TO) hy fun Hd e sd he => ?_)
    obtain ⟨oe, hoe, hce⟩ := he
    have zd : IsZip Hd z TI TO .ellipsis := sd _ _ D.i2z.symm (sc.extBut _ _ D.TOz.symm (sb.extBut _ _ D.i1z.symm za))
    have ne : e ≠ z := fun x => by subst x; rw [zd] at hoe; cases hoe; simp at hce
    exact wpAny_setField_rec zd (by simp) fun He _ se => hE He e (fun c o c1 c2 c3 c4 x => se.extBut _ _ c1 (sd _ _ c4 (sc.extBut _ _ c2 (sb.extBut _ _ c3 (sa.extBut _ _ c1 x))))) ⟨oe, se.extBut _ _ ne hoe, hce⟩
theorem py_item {k1 k2 : Bool} {z TI TO i1 i2 l1 l2 : Addr} {n1 n2 : Nat} {xs ys : Array Value} {x y a b : Value} {Q : Option Value → Shared → Prop} (D : ZipApart z TI TO i1 i2 l1 l2)
    (hz : IsZip s.heap z TI TO .none) (hTI : IsPair s.heap TI (.ref i1) (.ref i2)) (hTO : IsPair s.heap TO a b)
    (h1 : ItrK k1 s.heap i1 l1 n1) (h2 : ItrK k2 s.heap i2 l2 n2) (q1 : SeqK k1 s.heap l1 xs) (q2 : SeqK k2 s.heap l2 ys) (hx : xs[n1]? = some x) (hy : ys[n2]? = some y)
    (hQ : ∀ h', IsZip h' z TI TO (rawInt s.heap.objs.size) → IsPair h' TO x y → ItrK k1 h' i1 l1 (n1 + 1) → ItrK k2 h' i2 l2 (n2 + 1) → IsPair h' s.heap.objs.size x y → h'.objs.size = s.heap.objs.size + 1 →
      (∀ c o, c ≠ z → c ≠ TO → c ≠ i1 → c ≠ i2 → s.heap.get? c = some o → h'.get? c = some o) → Q (some (.ref s.heap.objs.size)) { s with heap := h' }) :
    wpAny (model prog w) A (pyNext (.ref z)) Q E s := by
  have hT : s.TypeIs (.ref z) "zip" := ⟨_, hz, rfl⟩
  unfold pyNext
  exact wpAny_bind (wpAny_attempt (wpAny_callSpecial?_slot (name := Str.ofString "__next__") hT F.slot_zip_next
    (wpAny_call_entry F.slot_zip_next hT F.entry_zip_next
      (zip_item D hz hTI hTO h1 h2 q1 q2 hx hy fun h' a1 a2 a3 a4 a5 a6 a7 => wpAny_pure (hQ h' a1 a2 a3 a4 a5 a6 a7)) (F.args_zip_next_1 _))))
theorem py_end {k1 k2 : Bool} {z TI TO i1 i2 l1 l2 : Addr} {n1 n2 : Nat} {xs ys : Array Value} {a b : Value} {Q : Option Value → Shared → Prop} (hh : A.handled = none) (D : ZipApart z TI TO i1 i2 l1 l2)
    (hz : IsZip s.heap z TI TO .none) (hTI : IsPair s.heap TI (.ref i1) (.ref i2)) (hTO : IsPair s.heap TO a b)
    (h1 : ItrK k1 s.heap i1 l1 n1) (h2 : ItrK k2 s.heap i2 l2 n2) (q1 : SeqK k1 s.heap l1 xs) (q2 : SeqK k2 s.heap l2 ys) (hend : xs[n1]? = none ∨ ys[n2]? = none)
    (hQ : ∀ h', (∀ c o, c ≠ z → c ≠ TO → c ≠ i1 → c ≠ i2 → s.heap.get? c = some o → h'.get? c = some o) → Q none { s with heap := h' }) : wpAny (model prog w) A (pyNext (.ref z)) Q E s := by
  have hT : s.TypeIs (.ref z) "zip" := ⟨_, hz, rfl⟩
  unfold pyNext
  refine wpAny_bind (wpAny_attempt (wpAny_callSpecial?_slot (name := Str.ofString "__next__") hT F.slot_zip_next
    (wpAny_call_entry F.slot_zip_next hT F.entry_zip_next (zip_end hh D hz hTI hTO h1 h2 q1 q2 hend fun h' e hk he => ?_) (F.args_zip_next_1 _))))
  obtain ⟨o, ho, hc⟩ := he
  exact wpAny_bind (wpAny_isInstance (T := "StopIteration") (b := true) ⟨o, ho, hc⟩ isSubtype_stop (wpAny_pure (hQ _ hk)))
end

abbrev hp1 (k1 : Bool) (h : Heap) (l1 : Addr) : Heap := h.push { cls := .type (nmI k1), data := .fields #[.ref l1, .int 0 0] }
abbrev hp2 (k1 k2 : Bool) (h : Heap) (l1 l2 : Addr) : Heap := (hp1 k1 h l1).push { cls := .type (nmI k2), data := .fields #[.ref l2, .int 0 0] }
abbrev hp3 (k1 k2 : Bool) (h : Heap) (l1 l2 : Addr) : Heap := (hp2 k1 k2 h l1 l2).push { cls := .type "tuple", data := .seq #[.ref h.objs.size, .ref (hp1 k1 h l1).objs.size] }
abbrev hp4 (k1 k2 : Bool) (h : Heap) (l1 l2 : Addr) : Heap := (hp3 k1 k2 h l1 l2).push { cls := .type "tuple", data := .seq #[.none, .none] }
abbrev hp5 (k1 k2 : Bool) (h : Heap) (l1 l2 : Addr) : Heap := (hp4 k1 k2 h l1 l2).push { cls := .type "zip", data := .fields #[.none, .bool false, .bool false, .ref (hp2 k1 k2 h l1 l2).objs.size, .ref (hp3 k1 k2 h l1 l2).objs.size] }
theorem meets_mixed (l1 l2 : Addr) (xs ys : Array Value) :
    Meets (Builtin.«zip.__new__» ⟨[.type "zip", .ref l1, .ref l2], []⟩) (fun _ R s => s.heap.IsTuple l1 xs ∧ s.heap.IsList l2 ys ∧
      R (.ok (.ret (.ref (hp4 true false s.heap l1 l2).objs.size))) { s with heap := hp5 true false s.heap l1 l2 }) :=
  .of_wp fun prog w A R s h => by
    obtain ⟨hp, g, d, tk, os⟩ := s; obtain ⟨hl1, hl2, h⟩ := h
    have hsub := sub_zip
    have hL1 : Heap.IsTuple (Shared.heap ⟨hp, g, d, tk, os⟩) l1 xs := hl1
    have hL2 : Heap.IsList (Shared.heap ⟨hp.push { cls := .type "tuple_iterator", data := .fields #[.ref l1, .int 0 0] }, g, d, tk, os⟩) l2 ys := Heap.IsList.push hl2 _
    wp_walk using wpAny_pyIter_tuple hL1, wpAny_pyIter_list hL2
    exact ⟨_, rfl, h⟩
section
variable {prog : Program} {w : World} {A : Around} {E : Value → Shared → Prop} {s : Shared}
theorem call_mixed {l1 l2 : Addr} {xs ys : Array Value} {Q : Value → Shared → Prop} (q1 : s.heap.IsTuple l1 xs) (q2 : s.heap.IsList l2 ys)
    (h : ∀ h', IsZip h' (s.heap.objs.size + 4) (s.heap.objs.size + 2) (s.heap.objs.size + 3) .none → IsPair h' (s.heap.objs.size + 2) (.ref s.heap.objs.size) (.ref (s.heap.objs.size + 1)) →
      IsPair h' (s.heap.objs.size + 3) .none .none → h'.IsTupleIter s.heap.objs.size l1 0 → h'.IsListIter (s.heap.objs.size + 1) l2 0 →
      (∀ c o, s.heap.get? c = some o → h'.get? c = some o) → Q (.ref (s.heap.objs.size + 4)) { s with heap := h' }) :
    wpAny (model prog w) A (call (.type "zip") [.ref l1, .ref l2]) Q E s := by
  refine callType_new F.called_zip (by decide) (F.typeCall_zip_2 _ _) (F.newCall_zip_2 _ _) (fun obj => F.args_object_init_3 obj _ _) F.entry_zip_new
    (meets_mixed l1 l2 xs ys) ⟨q1, q2, ?_⟩
  have s1 : (hp1 true s.heap l1).objs.size = s.heap.objs.size + 1 := Heap.size_push ..
  have s2 : (hp2 true false s.heap l1 l2).objs.size = s.heap.objs.size + 2 := by rw [Heap.size_push, s1]
  have s3 : (hp3 true false s.heap l1 l2).objs.size = s.heap.objs.size + 3 := by rw [Heap.size_push, s2]
  have s4 : (hp4 true false s.heap l1 l2).objs.size = s.heap.objs.size + 4 := by rw [Heap.size_push, s3]
  have g1 : (hp5 true false s.heap l1 l2).get? s.heap.objs.size = some _ := Heap.get?_push_of_some _ (Heap.get?_push_of_some _ (Heap.get?_push_of_some _ (Heap.get?_push_of_some _ (Heap.get?_push_size _ rfl))))
  have g2 : (hp5 true false s.heap l1 l2).get? (hp1 true s.heap l1).objs.size = some _ := Heap.get?_push_of_some _ (Heap.get?_push_of_some _ (Heap.get?_push_of_some _ (Heap.get?_push_size _ rfl)))
  have g3 : (hp5 true false s.heap l1 l2).get? (hp2 true false s.heap l1 l2).objs.size = some _ := Heap.get?_push_of_some _ (Heap.get?_push_of_some _ (Heap.get?_push_size _ rfl))
  have g4 : (hp5 true false s.heap l1 l2).get? (hp3 true false s.heap l1 l2).objs.size = some _ := Heap.get?_push_of_some _ (Heap.get?_push_size _ rfl)
  have g5 : (hp5 true false s.heap l1 l2).get? (hp4 true false s.heap l1 l2).objs.size = some _ := Heap.get?_push_size _ rfl
  show _ ∧ _
  rw [s2, s3, s4] at g5
  rw [s3] at g4
  rw [s1, s2] at g3
  rw [s1] at g2
  rw [s4]
  exact ⟨⟨_, g5, rfl⟩, h _ g5 g3 g4 ⟨_, g1, rfl, rfl⟩ ⟨_, g2, rfl, rfl⟩ fun c o x =>
    Heap.get?_push_of_some _ (Heap.get?_push_of_some _ (Heap.get?_push_of_some _ (Heap.get?_push_of_some _ (Heap.get?_push_of_some _ x))))⟩
/-- a list behind a tuple, or two of a kind -/
inductive Two : Bool → Bool → Prop | tt : Two true true | ll : Two false false | tl : Two true false
theorem call_two {k1 k2 : Bool} (T : Two k1 k2) {l1 l2 : Addr} {xs ys : Array Value} {Q : Value → Shared → Prop} (q1 : SeqK k1 s.heap l1 xs) (q2 : SeqK k2 s.heap l2 ys)
    (h : ∀ h', IsZip h' (s.heap.objs.size + 4) (s.heap.objs.size + 2) (s.heap.objs.size + 3) .none → IsPair h' (s.heap.objs.size + 2) (.ref s.heap.objs.size) (.ref (s.heap.objs.size + 1)) →
      IsPair h' (s.heap.objs.size + 3) .none .none → ItrK k1 h' s.heap.objs.size l1 0 → ItrK k2 h' (s.heap.objs.size + 1) l2 0 →
      (∀ c o, s.heap.get? c = some o → h'.get? c = some o) → Q (.ref (s.heap.objs.size + 4)) { s with heap := h' }) :
    wpAny (model prog w) A (call (.type "zip") [.ref l1, .ref l2]) Q E s := by
  cases T with
  | tt => exact RZ.call_zipT q1 q2 fun h' a b c d e _ g => h h' a b c d e g
  | ll => exact call_zip_2 q1 q2 fun h' a b c d e _ g => h h' a b c d e g
  | tl => exact call_mixed q1 q2 h
end
/-- a sequence of the heap as the shapes have it -/
def SqK (K : PySem.W.Frag) (k : Bool) (H : Hp) (a : Addr) (xs : List V) : Prop := cond k (SqT K H a xs) (SqL K H a xs)
theorem sqK_raw {X : Cx} {pins : List (Addr × Obj)} {σ : L2.St} {H : Hp} {s : Shared} (I : Inv X pins σ H s) : ∀ {k : Bool} {a : Addr} {xs : List V}, SqK X.K k H a xs → ∃ its, Vals xs its ∧ SeqK k s.heap a its.toArray
  | true, a, xs, h => by
    obtain ⟨its, rv, p, _⟩ := I.tuple h
    exact ⟨its, rv, p⟩
  | false, a, xs, h => by
    obtain ⟨its, rv, p, _⟩ := I.list h
    exact ⟨its, rv, p.isList⟩
theorem sqK_inj {X : Cx} {pins : List (Addr × Obj)} {σ : L2.St} {H : Hp} {s : Shared} (I : Inv X pins σ H s) : ∀ {k : Bool} {a : Addr} {xs ys : List V}, SqK X.K k H a xs → SqK X.K k H a ys → xs = ys
  | true, a, xs, ys, h, h' => I.tuple_inj h h'
  | false, a, xs, ys, h, h' => I.list_inj h h'
def Itz (K : PySem.W.Frag) (k1 k2 : Bool) (a b : Addr) : It :=
  ⟨fun i H => ∃ (xs ys : List V) (x y : V), SqK K k1 H a xs ∧ SqK K k2 H b ys ∧ xs[i]? = some x ∧ ys[i]? = some y,
    fun i H v H' => ∃ T x y ob, v = .ref T ∧ H T = none ∧ PD.PlT ob ∧ H' = upd H T (.frz ob (.tup [x, y])) ∧ (∀ xs, SqK K k1 H a xs → xs[i]? = some x) ∧ ∀ ys, SqK K k2 H b ys → ys[i]? = some y,
    fun i H => ∃ xs ys : List V, SqK K k1 H a xs ∧ SqK K k2 H b ys ∧ (xs.length ≤ i ∨ ys.length ≤ i)⟩
theorem turn {P : Program} {w : World} {K : PySem.W.Frag} {elts : List Expr} {kk : Nat} {tpos : Pos} {k1 k2 : Bool} {a b z TI TO i1 i2 : Addr} (D : ZipApart z TI TO i1 i2 a b) :
    Turn P w K (.Tuple elts kk tpos) (Itz K k1 k2 a b) [z, TI, TO, i1, i2] z (fun i h => IsZip h z TI TO .none ∧ IsPair h TI (.ref i1) (.ref i2) ∧ (∃ x y, IsPair h TO x y) ∧ ItrK k1 h i1 a i ∧ ItrK k2 h i2 b i) where
  mem := by simp
  obj := fun i h st c hc => by
    obtain ⟨hz, hTI, ⟨x, y, hTO⟩, ⟨o1, e1, _, d1⟩, ⟨o2, e2, _, d2⟩⟩ := st
    rcases (show c = z ∨ c = TI ∨ c = TO ∨ c = i1 ∨ c = i2 by simpa using hc) with q | q | q | q | q
    · rw [q]; exact ⟨_, hz, fun v q => nomatch q⟩
    · rw [q]; exact ⟨_, hTI, fun v q => nomatch q⟩
    · rw [q]; exact ⟨_, hTO, fun v q => nomatch q⟩
    · rw [q]; exact ⟨o1, e1, fun v q => by rw [d1] at q; cases q⟩
    · rw [q]; exact ⟨o2, e2, fun v q => by rw [d2] at q; cases q⟩
  keep := fun i h h' st k => by
    obtain ⟨hz, hTI, ⟨x, y, hTO⟩, h1, h2⟩ := st
    exact ⟨k z (by simp) _ hz, k TI (by simp) _ hTI, ⟨x, y, k TO (by simp) _ hTO⟩, h1.at fun o q => k i1 (by simp) o q, h2.at fun o q => k i2 (by simp) o q⟩
  item := by
    intro X hP hw hK hc i pins s σ H E I hf st hg
    subst hP hw hK
    obtain ⟨hz, hTI, ⟨x0, y0, hTO⟩, h1, h2⟩ := st
    obtain ⟨xs, ys, x, y, hqx, hqy, hx, hy⟩ := hg
    obtain ⟨its, rv, p⟩ := sqK_raw I hqx
    obtain ⟨its2, rv2, p2⟩ := sqK_raw I hqy
    obtain ⟨u, hu, ru⟩ := rv.get hx
    obtain ⟨u2, hu2, ru2⟩ := rv2.get hy
    have zl : z < s.heap.objs.size := Heap.lt_size hz
    refine py_item D hz hTI hTO h1 h2 p p2 (x := u) (y := u2) (by simpa using hu) (by simpa using hu2) fun h' z' TO' h1' h2' hT hsz hk => ?_
    refine ⟨_, rfl, wpAny_letOwnedTupleGo_zip (s := { s with heap := h' }) z' fun h'' z'' sb => ?_⟩
    let ob : Obj := { cls := .type "tuple", data := .seq #[u, u2] }
    let cell : HO := .frz ob (.tup [x, y])
    have hT2 : h''.get? s.heap.objs.size = some ob := (sb.2 _ (Nat.ne_of_gt zl)).trans hT
    have new : ObjOk X.prog X.w (upd H s.heap.objs.size cell) h'' s.heap.objs.size cell :=
      ⟨hT2, by show 2 ≤ sizeLine; decide, [u, u2], .cons ru (.cons ru2 .nil), ⟨_, hT2, rfl, _, rfl⟩⟩
    have I1 : Inv X pins σ (upd H s.heap.objs.size cell) { s with heap := h'' } :=
      I.turnedNew (t' := s.toks) (ch := [z, TI, TO, i1, i2]) (fun c o hb q => (sb.2 c (fun q' => hb (by simp [q']))).trans (hk c o (fun q' => hb (by simp [q'])) (fun q' => hb (by simp [q'])) (fun q' => hb (by simp [q'])) (fun q' => hb (by simp [q'])) q)) hf (Nat.le_refl _) new
    refine ⟨.ref s.heap.objs.size, _, I1, rfl, ⟨_, x, y, ob, rfl, I.hok.fresh (Nat.le_refl _), ⟨rfl, rfl⟩, rfl, fun l hl => by rw [sqK_inj I hl hqx]; exact hx, fun l hl => by rw [sqK_inj I hl hqy]; exact hy⟩, ⟨z'', ?_, ⟨u, u2, ?_⟩, ?_, ?_⟩, fun c hcm => ?_⟩
    · exact (sb.2 _ D.TIz).trans (hk _ _ D.TIz D.TITO D.TIi1 D.TIi2 hTI)
    · exact (sb.2 _ D.TOz).trans TO'
    · exact h1'.at fun o q => (sb.2 _ D.i1z).trans q
    · exact h2'.at fun o q => (sb.2 _ D.i2z).trans q
    · have lt : c < s.heap.objs.size := by
        rcases (show c = z ∨ c = TI ∨ c = TO ∨ c = i1 ∨ c = i2 by simpa using hcm) with q | q | q | q | q
        · rw [q]; exact zl
        · rw [q]; exact Heap.lt_size hTI
        · rw [q]; exact Heap.lt_size hTO
        · rw [q]; exact h1.lt
        · rw [q]; exact h2.lt
      rw [upd_ne (Nat.ne_of_lt lt)]
      exact (hf c hcm).1
  done := by
    intro X hP hw hK hc i pins s σ H E I hf st hg
    subst hP hw hK
    obtain ⟨hz, hTI, ⟨x0, y0, hTO⟩, h1, h2⟩ := st
    obtain ⟨xs, ys, hqx, hqy, hend⟩ := hg
    obtain ⟨its, rv, p⟩ := sqK_raw I hqx
    obtain ⟨its2, rv2, p2⟩ := sqK_raw I hqy
    have l1 := rv.length
    have l2 := rv2.length
    have he : its.toArray[i]? = none ∨ its2.toArray[i]? = none := by
      rcases hend with q | q
      · exact .inl (by simp; omega)
      · exact .inr (by simp; omega)
    exact py_end (I.ok.hd hc) D hz hTI hTO h1 h2 p p2 he fun h' hk => ⟨rfl, I.turnedL (t' := s.toks) (ch := [z, TI, TO, i1, i2]) (fun c o hb q =>
      hk c o (fun q' => hb (by simp [q'])) (fun q' => hb (by simp [q'])) (fun q' => hb (by simp [q'])) (fun q' => hb (by simp [q'])) q) hf⟩
  self := fun A i s Q E st h => wpAny_pyIter_zip st.1 h
def iZip (K : PySem.W.Frag) (ta : TA) : TI := fun σ H R => ta σ H fun vs H1 => ∃ k1 k2 a b xs ys, Two k1 k2 ∧ vs = [.ref a, .ref b] ∧ SqK K k1 H1 a xs ∧ SqK K k2 H1 b ys ∧ R (Itz K k1 k2 a b) H1
theorem pi_zip {X : Cx} {e e2 : Expr} {ta : TA} {p pos tpos : Pos} {elts : List Expr} {kk : Nat} (hg : Gl X "zip") (hm : X.mg "zip" = none) (ha : PA X [e, e2] ta)
    (hs : starEach [e, e2] X.env = (false, eval e X.env) :: starEach [e2] X.env := by rfl) (hpl : (backTo pos (starEach [e2] X.env)).any (·.1) = false := by rfl) :
    PI X (.Tuple elts kk tpos) (.Call (.Name "zip" p) [e, e2] [] pos) (iZip X.K ta) := by
  refine ⟨fun pins s σ H R I h => ?_⟩
  refine Call_ (ld_blt I hg hm PyProof.Rows.boot_zip (PyProof.Rows.callWith_type1 (thn (ha.run pos pins s σ H _ I h) fun us s1 ⟨vs, H1, I1, r1, q1⟩ => ?_) hs hpl))
  obtain ⟨k1, k2, a, b, xs, ys, T2, ex, hqx, hqy, q⟩ := q1
  subst ex
  cases r1 with
  | cons r rr =>
    cases rr with
    | cons r' rr =>
      cases rr
      cases r
      cases r'
      obtain ⟨its, rv, p1⟩ := sqK_raw I1 hqx
      obtain ⟨its2, rv2, p2⟩ := sqK_raw I1 hqy
      have fresh5 : ∀ c, c ∈ [s1.heap.objs.size + 4, s1.heap.objs.size + 2, s1.heap.objs.size + 3, s1.heap.objs.size, s1.heap.objs.size + 1] → FpOk X pins H1 c := fun c hcm => by
        have hle : s1.heap.objs.size ≤ c := by
          rcases (show c = s1.heap.objs.size + 4 ∨ c = s1.heap.objs.size + 2 ∨ c = s1.heap.objs.size + 3 ∨ c = s1.heap.objs.size ∨ c = s1.heap.objs.size + 1 by simpa using hcm) with z | z | z | z | z <;> omega
        exact I1.fpOk hle (I1.hok.fresh hle)
      refine call_two T2 p1 p2 fun h' hz hTI hTO h1 h2 hk => wpAny_pyIter_zip hz ?_
      have I2 : Inv X pins σ H1 { s1 with heap := h' } := I1.kept (t' := s1.toks) hk
      exact ⟨s1.heap.objs.size + 4, [s1.heap.objs.size + 4, s1.heap.objs.size + 2, s1.heap.objs.size + 3, s1.heap.objs.size, s1.heap.objs.size + 1], _, _, H1, rfl, I2, turn (PySem.W.ktu_apart s1.heap.objs.size a b p1.lt p2.lt), ⟨hz, hTI, ⟨_, _, hTO⟩, h1, h2⟩, fresh5, q⟩
end ZIP

/-! zip of data; more of built-ins -/
namespace PD
open PySem PySem.Spec PyProof.Rows L2 GxR LG
section
variable {X : Cx} {c : Co}
def zipD (xs ys : List PyData) : List PyData := List.zipWith (fun a b => .tuple [a, b]) xs ys
def sZip (f : SA) : SI := fun ρ => match f ρ with
  | some ([.d (.tuple xs), .d (.tuple ys)], ρ1) => some (zipD xs ys, ρ1)
  | some ([.d (.tuple xs), .d (.list ys)], ρ1) => some (zipD xs ys, ρ1)
  | _ => none
theorem zipD_at {xs ys : List PyData} {i : Nat} {d : PyData} (h : (zipD xs ys)[i]? = some d) : ∃ x y, xs[i]? = some x ∧ ys[i]? = some y ∧ d = .tuple [x, y] := by
  unfold zipD at h
  rw [List.getElem?_zipWith] at h
  cases e1 : xs[i]? with
  | none => rw [e1] at h; cases h
  | some x =>
    cases e2 : ys[i]? with
    | none => rw [e1, e2] at h; cases h
    | some y =>
      rw [e1, e2] at h
      cases h
      exact ⟨x, y, rfl, rfl, rfl⟩
theorem sqK_same {K : PySem.W.Frag} {F H : Hp} (s : Same F H) : ∀ {k : Bool} {a : Addr} {xs : List V}, ZIP.SqK K k F a xs → ZIP.SqK K k H a xs
  | true, _, _, h => sqT_same s h
  | false, _, _, h => s.seq h
theorem wk_zip {k1 k2 : Bool} {F : Hp} {a b : Addr} {vs us : List V} {xs ys : List PyData} (hK : X.K = c.K) (h1 : ZIP.SqK c.K k1 F a vs) (d1 : DpAll c.K F vs xs) (h2 : ZIP.SqK c.K k2 F b us) (d2 : DpAll c.K F us ys) :
    Wk c (ZIP.Itz X.K k1 k2 a b) F (zipD xs ys) := by
  rw [hK]
  refine ⟨fun i d F2 H2 e s1 s2 => ?_, fun F2 H2 s1 s2 => ⟨vs, us, sqK_same s2 (sqK_same s1 h1), sqK_same s2 (sqK_same s1 h2), ?_⟩⟩
  · obtain ⟨x, y, e1, e2, rfl⟩ := zipD_at e
    obtain ⟨v, ev, dv⟩ := dpAll_at d1 e1
    obtain ⟨u, eu, du⟩ := dpAll_at d2 e2
    refine ⟨⟨vs, us, v, u, sqK_same s2 (sqK_same s1 h1), sqK_same s2 (sqK_same s1 h2), ev, eu⟩, fun p H3 ⟨T, z, z', ob, q1, q2, qd, q3, q4, q5⟩ => ?_⟩
    subst q1
    subst q3
    have t1 := q4 vs (sqK_same s2 (sqK_same s1 h1))
    rw [ev] at t1
    cases t1
    have t2 := q5 us (sqK_same s2 (sqK_same s1 h2))
    rw [eu] at t2
    cases t2
    exact ⟨_, Xt.new s2 q2 qd, dp_newT (s2.free q2) (.cons (dp_same s1 dv) (.cons (dp_same s1 du) .nil))⟩
  · have l1 := dpAll_len d1
    have l2 := dpAll_len d2
    have : (zipD xs ys).length = min xs.length ys.length := by unfold zipD; rw [List.length_zipWith]
    rw [this]
    omega
theorem ei_zip {a b : Expr} {fa : SA} {tg ce : Expr} (hK : X.K = c.K) (h : ∀ {t : TA}, PA X [a, b] t → PI X tg ce (ZIP.iZip X.K t)) (ha : EA c X [a, b] fa) : EI c X tg ce (sZip fa) := by
  refine ⟨⟨fun pins s σ H R I ⟨F, ρ, items, ρ', RR, e1, k⟩ => ?_⟩⟩
  unfold sZip at e1
  split at e1
  · rename_i xs ys ρ1 e2
    cases e1
    refine (h ha.pa).run pins s σ H R I ⟨F, ρ, _, _, RR, e2, fun vs H1 F1 s1 R1 o1 => ?_⟩
    match vs, o1 with
    | [v, u], ⟨o, o', _⟩ =>
      cases o with
      | tup hs hd =>
        cases o' with
        | tup hs' hd' =>
          exact ⟨true, true, _, _, _, _, .tt, rfl, by rw [hK]; exact sqT_same R1.sub hs, by rw [hK]; exact sqT_same R1.sub hs', k _ H1 F1 s1 R1 (wk_zip hK (k1 := true) (k2 := true) hs hd hs' hd')⟩
  · rename_i xs ys ρ1 e2
    cases e1
    refine (h ha.pa).run pins s σ H R I ⟨F, ρ, _, _, RR, e2, fun vs H1 F1 s1 R1 o1 => ?_⟩
    match vs, o1 with
    | [v, u], ⟨o, o', _⟩ =>
      cases o with
      | tup hs hd =>
        cases o' with
        | lst hs' hd' =>
          exact ⟨true, false, _, _, _, _, .tl, rfl, by rw [hK]; exact sqT_same R1.sub hs, by rw [hK]; exact R1.sub.seq hs', k _ H1 F1 s1 R1 (wk_zip hK (k1 := true) (k2 := false) hs hd hs' hd')⟩
  · cases e1
end
end PD

/-! t.index(x), t[::-1], all(list), sorted(set(t)), two new lists at once -/
namespace PD
open PySem PySem.Spec PyProof.Rows L2 GxR LG
/-! ### index -/
section
variable {X : Cx}
def rIdxT (K : PySem.W.Frag) : V → List V → Hp → VK → Prop := fun x xs H Q => ∃ (p : Addr) (ns : List Int) (k : Int), x = .ref p ∧ xs = [.int k] ∧ SqT K H p (ns.map V.int) ∧ k ∈ ns ∧ Q (.int (ns.idxOf k : Nat)) H
theorem mt_tindex : MtR X "tuple.index" (rIdxT X.K) := by
  intro pins s σ H x args v us Q I rx rxs h
  obtain ⟨tp, ns, k, rfl, rfl, hs, hk, wish⟩ := h
  cases rx
  obtain ⟨u, rfl, ru⟩ := rxs.one
  obtain ⟨t, rfl⟩ := ru
  obtain ⟨vals, rv, p, _⟩ := I.tuple hs
  exact SeqAt.tuple_index_ints (show s.heap.IsTuple tp vals.toArray from p) (intsAre_of rv) hk ⟨.int (ns.idxOf k : Nat), H, I.tok _, ⟨s.toks, rfl⟩, wish⟩
end
def fIdxT : PyData → PyData → Option PyData
  | .tuple ds, .int k => match intsOf ds with
    | some ns => if k ∈ ns then some (.int (ns.idxOf k : Nat)) else none
    | none => none
  | _, _ => none
theorem l1_idxT {K : PySem.W.Frag} : L1M K (rIdxT K) fIdxT := by
  intro F H x y d e z Q s hx hy hf k
  unfold fIdxT at hf
  split at hf
  · rename_i ds j
    split at hf
    · rename_i ns e1
      split at hf
      · rename_i hj
        cases hf
        obtain ⟨a, vs, rfl, ha, hd⟩ := hx.tup s
        rw [intsOf_eq e1] at hd
        have hv := dpAll_ints hd
        subst hv
        exact ⟨a, ns, j, rfl, by rw [hy.int], ha, hj, k _ F H (Xt.refl s) (.int _)⟩
      · cases hf
    · cases hf
  · cases hf
/-! ### t[::-1] -/
theorem filterMap_all {α β : Type} {f : α → Option β} {g : α → β} : ∀ {l : List α}, (∀ x ∈ l, f x = some (g x)) → l.filterMap f = l.map g
  | [], _ => rfl
  | x :: l, h => by
    rw [List.filterMap_cons, h x (List.mem_cons_self ..), List.map_cons]
    dsimp only
    rw [filterMap_all fun y hy => h y (List.mem_cons_of_mem _ hy)]
theorem pick_back {α : Type} (xs : List α) : ((List.range xs.length).filterMap fun (k : Nat) => xs[(((xs.length : Int) - 1) + (k : Int) * (-1)).toNat]?) = xs.reverse := by
  cases xs with
  | nil => rfl
  | cons x r =>
    have e : ∀ k ∈ List.range (x :: r).length, (x :: r)[((((x :: r).length : Int) - 1) + (k : Int) * (-1)).toNat]? = some ((x :: r).reverse.getD k x) := fun k hk => by
      have hk := List.mem_range.mp hk
      have : ((((x :: r).length : Int) - 1) + (k : Int) * (-1)).toNat = (x :: r).length - 1 - k := by omega
      rw [this, List.getD_eq_getElem?_getD, List.getElem?_reverse hk]
      rw [List.getElem?_eq_getElem (by omega)]
      rfl
    rw [filterMap_all e]
    refine List.ext_getElem (by simp) fun i h1 h2 => ?_
    rw [List.getElem_map, List.getElem_range, List.getD_eq_getElem?_getD, List.getElem?_eq_getElem h2]
    rfl
section
variable {prog : Program} {w : World} {A : Around} {E : Value → Shared → Prop} {s : Shared}
theorem applied_back {sl : Addr} {n : Nat} {u : Tok} {Q : Int × Int × Nat → Shared → Prop} (hs : s.heap.IsSliceOf sl .none .none (.int (-1) u))
    (h : Q ((n : Int) - 1, -1, n) s) : wpAny (model prog w) A (Builtin.Slice.sliceApplied (.ref sl) (pure (n : Int))) Q E s := by
  obtain ⟨os, hos, hcs, hds⟩ := id hs
  unfold Builtin.Slice.sliceApplied Builtin.Slice.sliceFields
  refine wpAny_bind (wpAny_bind (wpAny_field hos hds (x := .none) rfl (wpAny_bind (wpAny_field hos hds (x := .none) rfl (wpAny_bind (wpAny_field hos hds (x := .int (-1) u) rfl (wpAny_pure ?_)))))))
  refine wpAny_bind (slicePart_int ?_)
  show wpAny _ _ (if ((-1 : Int) == 0) = true then _ else _) _ _ s
  rw [if_neg (by decide)]
  refine wpAny_bind (slicePart_none (wpAny_bind (slicePart_none (wpAny_bind (wpAny_pure ?_)))))
  have e : Builtin.Slice.slicePlaces ((n : Int) - 1) (-1) (-1) = n := by
    unfold Builtin.Slice.slicePlaces
    have h1 : ¬ ((-1 : Int) > 0) := by omega
    simp only [h1, if_false]
    have h2 : (- -1 : Int) = 1 := by omega
    rw [h2, Int.ediv_one]
    split <;> omega
  show wpAny _ _ (pure ((n : Int) - 1, (-1 : Int), Builtin.Slice.slicePlaces ((n : Int) - 1) (-1) (-1))) _ _ s
  rw [e]
  exact wpAny_pure h
theorem getItem_back {t sl : Addr} {items : Array Value} {u : Tok} {Q : Value → Shared → Prop} (ht : IsTup s.heap t items) (hs : s.heap.IsSliceOf sl .none .none (.int (-1) u))
    (h : Q (.ref s.heap.objs.size) { s with heap := s.heap.push { cls := .type "tuple", data := .seq items.toList.reverse.toArray } })
    (hsz : items.size ≤ sizeLine) : wpAny (model prog w) A (getItem (.ref t) (.ref sl)) Q E s := by
  have fits : sizeOk (.seq items.toList.reverse.toArray) := by
    show items.toList.reverse.toArray.size ≤ sizeLine
    rw [List.size_toArray, List.length_reverse, Array.length_toList]
    exact hsz
  obtain ⟨os, hos, hcs, hds⟩ := id hs
  have hTs : s.TypeIs (.ref sl) "slice" := ⟨os, hos, hcs⟩
  unfold getItem
  try with_reducible refine wpAny_holding ?_
  first | refine wpAny_bind (wpAny_pure ?_) | skip
  refine wpAny_bind (wpAny_sequenceKey ht.typeIs (by decide) ?_)
  refine wpAny_bind (wpAny_callSpecial?_slot (name := Str.ofString "__getitem__") ht.typeIs PyProof.Rows.slot_tuple_getitem
    (wpAny_call_entry PyProof.Rows.slot_tuple_getitem ht.typeIs PyProof.Rows.entry_tuple_getitem ?_ (PyProof.Rows.args_tuple_getitem _ _)))
  show wpAny _ _ (Builtin.Tuple.tupleItemsOf (.ref t) >>= _) _ _ s
  refine wpAny_bind (tupleItemsOf_ ht ?_)
  refine wpAny_bind (wpAny_typeOf hTs ?_)
  rw [if_pos (by decide)]
  refine wpAny_bind (applied_back hs ?_)
  show wpAny _ _ (if (((items.size : Int) - 1) == 0 && (-1 : Int) == 1 && items.size == items.size) = true then _ else _) _ _ s
  have hno : ¬ ((((items.size : Int) - 1) == 0 && (-1 : Int) == 1 && items.size == items.size) = true) := by
    intro q
    rw [Bool.and_eq_true, Bool.and_eq_true] at q
    exact absurd (eq_of_beq q.1.2) (by decide)
  have e : ((List.range items.size).filterMap fun (k : Nat) => items[(((items.size : Int) - 1) + (k : Int) * (-1)).toNat]?).toArray = items.toList.reverse.toArray := by
    have := pick_back items.toList
    rw [← this]
    simp
  rw [if_neg hno, e]
  first
    | exact wpAny_bind (m := Builtin.Tuple.tupleExact _) (wpAny_newObj_type (wpAny_pure ⟨_, rfl, wpAny_pure h⟩) fits)
    | exact wpAny_bind (m := Builtin.Tuple.tupleExact _) (wpAny_newObj_type (wpAny_bind (wpAny_pure (wpAny_pure ⟨_, rfl, wpAny_pure h⟩))) fits)
    | exact wpAny_bind (wpAny_bind (m := Builtin.Tuple.tupleExact _) (wpAny_newObj_type (wpAny_pure (wpAny_pure ⟨_, rfl, wpAny_pure h⟩)) fits))
    | exact wpAny_bind (wpAny_bind (m := Builtin.Tuple.tupleExact _) (wpAny_newObj_type (wpAny_pure ⟨_, rfl, wpAny_pure h⟩) fits))
end
section
variable {c : Co} {X : Cx} {e st : Expr} {te ts : TE} {pos p2 : Pos}
def tRev (K : PySem.W.Frag) (te ts : TE) : TE := fun σ H Q => te σ H fun x H1 => ts σ H1 fun y H2 => ∃ a vs, y = .int (-1) ∧ x = .ref a ∧ SqT K H2 a vs ∧ NewT Q H2 vs.reverse
theorem vals_rev : ∀ {vs : List V} {us : List Value}, Vals vs us → Vals vs.reverse us.reverse
  | _, _, .nil => .nil
  | _, _, .cons h r => by
    rw [List.reverse_cons, List.reverse_cons]
    exact (vals_rev r).append (.cons h .nil)
theorem pe_rev (he : PE X e te) (hs : PE X st ts) (how : ∀ a b : Addr, subscripted (.Slice none none (some st) p2) false (.ref a) (.ref b) = operate [.ref a, .ref b] (getItem (.ref a) (.ref b)) := by intro a b; with_unfolding_all rfl) : PE X (.Subscript e (.Slice none none (some st) p2) pos) (tRev X.K te ts) := by
  refine ⟨fun pins s σ H Q I h => ?_⟩
  refine Subscript_ (thn (he.run pins s σ H _ I h) fun v s1 ⟨x, H1, I1, r1, q1⟩ => ?_)
  refine wpAny_Slice ?_
  rw [evalPart_none]
  refine wpAny_pure (wpAny_pure ?_)
  rw [evalPart_some]
  refine thn (hs.run pins s1 σ H1 _ I1 q1) fun u s2 ⟨y, H2, I2, r2, q2⟩ => ?_
  obtain ⟨a, vs, rfl, rfl, hq, q⟩ := q2
  obtain ⟨t, rfl⟩ := r2
  cases r1
  have I4 : Inv X pins σ H2 { s2 with heap := s2.heap.push { cls := .type "slice", data := .fields #[.none, .none, .int (-1) t] } } := I2.kept (t' := s2.toks) fun b ob q => Heap.get?_push_of_some _ q
  obtain ⟨us, r, ht, z⟩ := I4.tuple hq
  show wpAny (model X.prog X.w) X.A (subscriptTail e (.Slice none none (some st) p2) (.ref a) (.ref s2.heap.objs.size)) (EP X pins σ Q) X.xe { s2 with heap := s2.heap.push { cls := .type "slice", data := .fields #[.none, .none, .int (-1) t] } }
  refine tail_any (ops := [.ref a, .ref s2.heap.objs.size]) ht.typeIs PyProof.Rows.slot_tuple_getitem.lookup ?_ (how _ _)
  refine getItem_back ht (Heap.IsSliceOf.new ..) ?_ (by rw [List.size_toArray, ← r.length]; exact z)
  exact new_t (s0 := { s2 with heap := s2.heap.push { cls := .type "slice", data := .fields #[.none, .none, .int (-1) t] } }) (t' := s2.toks) I4 (fun b o e => Heap.get?_push_of_some _ e) (Nat.le_refl _) (Heap.get?_push_size _ rfl) (vals_rev r) (by rw [List.length_reverse]; exact z) q
def sRev (fa fs : SE) : SE := fun ρ => match fa ρ with
  | none => none
  | some (y, ρ1) => match fs ρ1 with
    | some (.d (.int k), ρ2) => if k = -1 then match res ρ2 y with
      | some (.tuple ds) => some (.d (.tuple ds.reverse), ρ2)
      | _ => none else none
    | _ => none
theorem dpAll_rev {K : PySem.W.Frag} {F : Hp} : ∀ {vs : List V} {ds : List PyData}, DpAll K F vs ds → DpAll K F vs.reverse ds.reverse
  | _, _, .nil => .nil
  | _, _, .cons h r => by
    rw [List.reverse_cons, List.reverse_cons]
    exact dpAll_app (dpAll_rev r) (.cons h .nil)
theorem eo_rev {ce : Expr} {fa fs : SE} (hK : X.K = c.K) (h : ∀ {te ts : TE}, PE X e te → PE X st ts → PE X ce (tRev X.K te ts)) (ha : EO c X e fa) (hs : EO c X st fs) : EO c X ce (sRev fa fs) := by
  refine ⟨pe_imp (h ha.pe hs.pe) fun σ H Q ⟨F, ρ, x, ρ', R, q, k⟩ => ?_⟩
  unfold sRev at q
  split at q
  · cases q
  · rename_i y ρ1 e1
    split at q
    · rename_i j ρ2' e2
      split at q
      · rename_i hj
        subst hj
        split at q
        · rename_i ds e3
          cases q
          refine ⟨F, ρ, y, ρ1, R, e1, fun v H1 F1 s1 R1 o1 => ⟨F1, ρ1, _, _, R1, e2, fun u H2 F2 s2 R2 o2 => ?_⟩⟩
          obtain ⟨a, vs, rfl, hq, hd⟩ := (R2.vw (o1.same s2) e3).tup R2.sub
          rw [hK]
          refine ⟨a, vs, ?_, rfl, hq, fun p ob hp hob => ?_⟩
          · cases o2
            rfl
          · exact k _ _ _ ((s1.trans s2).trans (Xt.new (o := .frz ob (.tup vs.reverse)) R2.sub hp hob).f) (R2.xt (Xt.new (o := .frz ob (.tup vs.reverse)) R2.sub hp hob)) (dp_newT (R2.sub.free hp) (dpAll_rev hd))
        · cases q
      · cases q
    · cases q
end
/-! ### all(list of truths) -/
def boolsOf : List PyData → Option (List Bool)
  | [] => some []
  | .bool b :: r => (boolsOf r).map (b :: ·)
  | _ :: _ => none
theorem boolsOf_map : ∀ bs : List Bool, boolsOf (bs.map PyData.bool) = some bs
  | [] => rfl
  | b :: bs => by
    rw [List.map_cons]
    show (boolsOf (bs.map PyData.bool)).map (b :: ·) = _
    rw [boolsOf_map bs]
    rfl
theorem boolsOf_eq : ∀ {ds : List PyData} {bs : List Bool}, boolsOf ds = some bs → ds = bs.map PyData.bool
  | [], _, e => by cases e; rfl
  | .bool b :: r, bs, e => by
    simp only [boolsOf, Option.map_eq_some_iff] at e
    obtain ⟨z, e1, rfl⟩ := e
    rw [boolsOf_eq e1]
    rfl
  | .int _ :: _, _, e => by cases e
  | .none :: _, _, e => by cases e
  | .str _ :: _, _, e => by cases e
  | .list _ :: _, _, e => by cases e
  | .tuple _ :: _, _, e => by cases e
  | .dict _ :: _, _, e => by cases e
theorem dpAll_bools {K : PySem.W.Frag} {F : Hp} : ∀ {vs : List V} {bs : List Bool}, DpAll K F vs (bs.map PyData.bool) → vs = bs.map V.bl
  | _, [], h => by cases h; rfl
  | _, b :: bs, .cons h hs => by
    rw [dpAll_bools hs]
    cases h
    rfl
def fAllL : List PyData → Option PyData
  | [.list ds] => (boolsOf ds).map fun bs => .bool (bs.all id)
  | _ => none
theorem ln_allL {K : PySem.W.Frag} : LNok K (rAll K) fAllL := by
  intro F H vs ds z Q s hv hf k
  unfold fAllL at hf
  split at hf
  · rename_i ds
    obtain ⟨bs, e, rfl⟩ := Option.map_eq_some_iff.mp hf
    obtain ⟨v, rfl, h⟩ := vw1 hv
    obtain ⟨a, us, rfl, ha, hd⟩ := h.list s
    rw [boolsOf_eq e] at hd
    rw [dpAll_bools hd] at ha
    exact ⟨a, bs, rfl, ha, k _ F H (Xt.refl s) (.bl _)⟩
  · cases hf
/-! ### sorted(set(t)), t a tuple of ints -/
def insS (k : Int) : List Int → List Int
  | [] => [k]
  | x :: xs => if k < x then k :: x :: xs else if k = x then x :: xs else x :: insS k xs
def snub : List Int → List Int
  | [] => []
  | x :: xs => insS x (snub xs)
theorem mem_insS {k j : Int} : ∀ {xs : List Int}, j ∈ insS k xs ↔ j = k ∨ j ∈ xs
  | [] => by simp [insS]
  | x :: xs => by
    unfold insS
    split
    · simp
    · split
      · rename_i e
        subst e
        simp
      · rw [List.mem_cons, mem_insS (xs := xs), List.mem_cons]
        constructor
        · rintro (h | h | h) <;> simp [h]
        · rintro (h | h | h) <;> simp [h]
theorem insS_up {k : Int} : ∀ {xs : List Int}, xs.Pairwise (· < ·) → (insS k xs).Pairwise (· < ·)
  | [], _ => by simp [insS]
  | x :: xs, h => by
    have h1 := fun {z} => List.rel_of_pairwise_cons h (a' := z)
    have h2 := List.Pairwise.of_cons h
    unfold insS
    split
    · rename_i lt
      refine List.Pairwise.cons (fun y hy => ?_) h
      rcases List.mem_cons.mp hy with e | hy
      · rw [e]; exact lt
      · exact Int.lt_trans lt (h1 hy)
    · split
      · exact h
      · refine List.Pairwise.cons (fun y hy => ?_) (insS_up h2)
        rcases mem_insS.mp hy with e | hy
        · rw [e]; omega
        · exact h1 hy
theorem mem_snub {j : Int} : ∀ {xs : List Int}, j ∈ snub xs ↔ j ∈ xs
  | [] => Iff.rfl
  | x :: xs => by
    unfold snub
    rw [mem_insS, mem_snub (xs := xs), List.mem_cons]
theorem snub_up : ∀ {xs : List Int}, (snub xs).Pairwise (· < ·)
  | [] => List.Pairwise.nil
  | x :: xs => insS_up snub_up
theorem up_one : ∀ {xs ys : List Int}, xs.Pairwise (· < ·) → ys.Pairwise (· < ·) → (∀ k, k ∈ xs ↔ k ∈ ys) → xs = ys
  | [], [], _, _, _ => rfl
  | [], y :: ys, _, _, h => absurd ((h y).mpr (List.mem_cons_self ..)) (by simp)
  | x :: xs, [], _, _, h => absurd ((h x).mp (List.mem_cons_self ..)) (by simp)
  | x :: xs, y :: ys, hx, hy, h => by
    have h1 := fun {z} => List.rel_of_pairwise_cons hx (a' := z)
    have h2 := fun {z} => List.rel_of_pairwise_cons hy (a' := z)
    have e : x = y := by
      rcases List.mem_cons.mp ((h x).mp (List.mem_cons_self ..)) with e | m
      · exact e
      · rcases List.mem_cons.mp ((h y).mpr (List.mem_cons_self ..)) with e | m'
        · exact e.symm
        · have a := h2 m
          have b := h1 m'
          omega
    subst e
    rw [up_one (List.Pairwise.of_cons hx) (List.Pairwise.of_cons hy) fun k => ?_]
    constructor
    · intro m
      rcases List.mem_cons.mp ((h k).mp (List.mem_cons_of_mem _ m)) with e | m'
      · have := h1 m
        omega
      · exact m'
    · intro m
      rcases List.mem_cons.mp ((h k).mpr (List.mem_cons_of_mem _ m)) with e | m'
      · have := h2 m
        omega
      · exact m'
section
variable {c : Co} {X : Cx} {a ce : Expr}
def tSrtSet (K : PySem.W.Frag) (ta : TE) : TE := fun σ H Q => ta σ H fun x H1 => ∃ (l : Addr) (ns : List Int), x = .ref l ∧ SqT K H1 l (ns.map V.int) ∧ ns.length < 60 ∧ ∀ p, H1 p = none → Q (.ref p) (upd H1 p (.lst ((snub ns).map V.int)))
theorem pe_srtSet {ta : TE} {p p2 q pos : Pos} (hg : Gl X "sorted") (hm : X.mg "sorted" = none) (hg2 : Gl X "set") (hm2 : X.mg "set" = none) (ha : PE X a ta) (hc : X.calm = true := by rfl)
    (na : starEach [a] X.env = (false, eval a X.env) :: starEach [] X.env := by rfl) : PE X (.Call (.Name "sorted" p) [.Call (.Name "set" p2) [a] [] q] [] pos) (tSrtSet X.K ta) := by
  refine ⟨fun pins s σ H Q I h => ?_⟩
  refine Call_ (ld_blt I hg hm boot_sorted ?_)
  refine PyProof.Rows.callWith_builtin1 (PyProof.Rows.args_cons ?_ rfl) rfl rfl
  refine Call_ (ld_blt I hg2 hm2 boot_set ?_)
  refine PyProof.Rows.callWith_type1 (PyProof.Rows.args_cons (thn (ha.run pins s σ H _ I h) fun v s1 ⟨x, H1, I1, r1, q1⟩ => PyProof.Rows.args_nil ?_) na) na rfl
  obtain ⟨l, ns, rfl, hq, hl, q1⟩ := q1
  cases r1
  obtain ⟨its, r, pl, hz⟩ := I1.tuple hq
  refine L2.call_set_tupI ns (I1.ok.hd hc) (show s1.heap.IsTuple l its.toArray from pl) (by simpa using RZ.intsAre_vals r) (by unfold scanBound; omega) fun h' tk n hS hcn hk => ?_
  refine PyProof.Rows.args_nil ?_
  have I2 : Inv X pins σ H1 { s1 with heap := h', toks := tk } := I1.kept fun b o e => hk b o e
  replace hS : SetR X.w ({ s1 with heap := h', toks := tk } : Shared).heap s1.heap.objs.size (fun j => decide (j ∈ ns)) n := hS
  revert hS I2
  generalize ({ s1 with heap := h', toks := tk } : Shared) = s2
  intro I2 hS
  refine sorted_set hS (I2.ok.hd hc) (by omega) fun s' w out cc ms k g o hp hgt hi hs hmem hlen => ?_
  have em : ms = snub ns := up_one hs snub_up fun k => by rw [hmem k, decide_eq_true_eq, mem_snub]
  subst em
  have fits : ((snub ns).map V.int).length ≤ sizeLine := by rw [List.length_map, hlen, sizeLine_eq]; omega
  have hn : H1 w = none := I2.hok.fresh hp
  have J : Inv X pins σ (upd H1 w (.lst ((snub ns).map V.int))) { s2 with heap := s'.heap, gens := s'.gens, drawn := s'.drawn, toks := s'.toks } :=
    I2.call (ch := []) (Un.laid k hp hn) (I2.hok.laid k hp ⟨fits, out.toList, cc, vals_of_ints hi, hgt⟩) (by rw [g]; exact I2.bare) (fun _ z => nomatch z)
  have e : s' = { s2 with heap := s'.heap, gens := s'.gens, drawn := s'.drawn, toks := s'.toks } := by
    cases s'
    cases s2
    cases o
    rfl
  rw [e]
  exact ⟨.ref w, _, J, rfl, q1 w hn⟩
def sSrtSet (f : SE) : SI := fun ρ => match f ρ with
  | some (x, ρ1) => match res ρ1 x with
    | some (.tuple ds) => match intsOf ds with
      | some ns => if ns.length < 60 then some ((snub ns).map PyData.int, ρ1) else none
      | none => none
    | _ => none
  | none => none
theorem dpAll_of_ints {K : PySem.W.Frag} {F : Hp} : ∀ ns : List Int, DpAll K F (ns.map V.int) (ns.map PyData.int)
  | [] => .nil
  | n :: ns => .cons (.int n) (dpAll_of_ints ns)
theorem ef_srtSet {f : SE} (hK : X.K = c.K) (h : ∀ {te : TE}, PE X a te → PE X ce (tSrtSet X.K te)) (ha : EO c X a f) : EF c X ce (sSrtSet f) := by
  refine ⟨pe_imp (h ha.pe) fun σ H Q ⟨F, ρ, x, ρ', R, e, k⟩ => ?_⟩
  unfold sSrtSet at e
  split at e
  · rename_i y ρ1 e1
    split at e
    · rename_i ds e2
      split at e
      · rename_i ns e3
        split at e
        · rename_i hl
          cases e
          refine ⟨F, ρ, y, _, R, e1, fun v H1 F1 s1 R1 o1 => ?_⟩
          obtain ⟨p, vs, rfl, hs, hd⟩ := (R1.vw o1 e2).tup R1.sub
          rw [intsOf_eq e3] at hd
          rw [dpAll_ints hd] at hs
          rw [hK]
          exact ⟨p, ns, rfl, hs, hl, fun p hp => let ⟨R2, f2⟩ := R1.fresh hp (dpAll_of_ints (snub ns)); k p _ F1 s1 R2 f2⟩
        · cases e
      · cases e
    · cases e
  · cases e
end
/-! ### x, y = [..], [..], both changed later -/
section
variable {c : Co} {X : Cx}
def AnyF (c : Co) (g : SI) : TE := fun σ H Q => ∃ c' : Co, c'.K = c.K ∧ c'.T = c.T ∧ rF c' g σ H Q
theorem any_f {b : Expr} {g : SI} (h : ∀ H0 F0 io, EF (c.re H0 F0 io) X b g) : PE X b (AnyF c g) := ⟨fun pins s' σ H' Q I ⟨c', hK, hT, q⟩ => by
  rw [re_eq hK hT] at q
  exact (h _ _ _).pe.run pins s' σ H' Q I q⟩
def sParOO (i j : Nat) (f g : SI) : SS := fun ρ => match f ρ with
  | none => none
  | some (ds, ρ1) => match g ρ1 with
    | some (es, ρ2) => if i = j then none else some (.nx, (ρ2.set i (.own ds)).set j (.own es))
    | none => none
theorem es_parOO {i j : Nat} {a b : Expr} {f g : SI} {st : Stmt} (h : ∀ {t u : TE}, PE X a t → PE X b u → PS X st (tPar i j (tCons t (tCons u tNil)))) (ha : EF c X a f) (hb : ∀ H0 F0 io, EF (c.re H0 F0 io) X b g) : ES c X st (sParOO i j f g) := by
  refine ⟨ps_imp (h ha.pe (any_f hb)) fun D σ H ⟨F, ρ, fl, ρ', R, e, k⟩ => ?_⟩
  unfold sParOO at e
  split at e
  · cases e
  · rename_i ds ρ1 e1
    split at e
    · rename_i es ρ2 e2
      split at e
      · cases e
      · rename_i hij
        cases e
        refine ⟨F, ρ, ds, ρ1, R, e1, fun a H1 F1 s1 R1 f1 => ?_⟩
        obtain ⟨vs, hv, hd⟩ := f1.at_
        have f0 : c.F0 a = none := R1.mono.free f1.nf
        have nio : a ∉ c.io := fun z => (R1.ioh a z).1 f1.h0
        have R2 := R1.guard f1 hv f0
        refine ⟨c.with a (.lst vs), rfl, rfl, F1, ρ1, _, ρ2, R2, e2, fun b H3 F3 s3 R3 f3 => ?_⟩
        obtain ⟨R4, h4, n4, no4⟩ := R3.unguard f1.h0 f1.nt nio f0
        have f4 : Fresh c F3 H3 σ ρ2 a ds := ⟨⟨vs, h4, dpAll_same s3 hd⟩, n4, f1.nt, f1.h0, no4⟩
        have hb0 : upd c.H0 a (.lst vs) b = none := f3.h0
        have ba : b ≠ a := fun z => by
          rw [z, upd_same] at hb0
          cases hb0
        have R5 := R4.putOwn i f4
        have f5 : Fresh c F3 H3 (σ.set i (some (.ref a))) (ρ2.set i (.own ds)) b es := by
          refine ⟨f3.at_, f3.nf, f3.nt, by rw [upd_ne ba] at hb0; exact hb0, fun m xs e z => ?_⟩
          by_cases hm : i = m
          · subst hm
            by_cases hi : i < ρ2.length
            · rw [vAt_set (by rw [R4.len]; exact hi)] at z
              cases z
              exact ba rfl
            · rw [List.getElem?_eq_none (by simpa using hi)] at e
              cases e
          · rw [vAt_ne hm] at z
            rw [List.getElem?_set_ne hm] at e
            exact f3.no m xs e z
        exact ⟨_, _, rfl, k _ H3 F3 (s1.trans s3) (R5.putOwn j f5)⟩
    · cases e
end
end PD

/-! sorted(set(pairs)), pairs of ints in 0 .. 63 -/
namespace PD
open PySem PySem.Spec PyProof.Rows L2 GxR LG
def prD (p : Int × Int) : PyData := .tuple [.int p.1, .int p.2]
def pairsOf : List PyData → Option (List (Int × Int))
  | [] => some []
  | .tuple [.int a, .int b] :: r => if decide (0 ≤ a ∧ a < 64 ∧ 0 ≤ b ∧ b < 64) then (pairsOf r).map ((a, b) :: ·) else none
  | _ :: _ => none
def cdP (p : Int × Int) : Int := p.1 * 64 + p.2
def dcP (m : Int) : Int × Int := (m / 64, m % 64)
def InP (p : Int × Int) : Prop := 0 ≤ p.1 ∧ p.1 < 64 ∧ 0 ≤ p.2 ∧ p.2 < 64
theorem pairsOf_map : ∀ {ps : List (Int × Int)}, (∀ p ∈ ps, InP p) → pairsOf (ps.map prD) = some ps
  | [], _ => rfl
  | p :: ps, h => by
    rw [List.map_cons]
    show (if decide (0 ≤ p.1 ∧ p.1 < 64 ∧ 0 ≤ p.2 ∧ p.2 < 64) then (pairsOf (ps.map prD)).map ((p.1, p.2) :: ·) else none) = _
    rw [if_pos (decide_eq_true (show 0 ≤ p.1 ∧ p.1 < 64 ∧ 0 ≤ p.2 ∧ p.2 < 64 from h p (List.mem_cons_self ..))), pairsOf_map fun q hq => h q (List.mem_cons_of_mem _ hq)]
    rfl
theorem pairsOf_eq {ds : List PyData} : ∀ {ps : List (Int × Int)}, pairsOf ds = some ps → ds = ps.map prD ∧ ∀ p ∈ ps, InP p := by
  fun_induction pairsOf ds with
  | case1 => intro ps e; cases e; exact ⟨rfl, fun p h => by cases h⟩
  | case2 a b r h ih =>
    intro ps e
    obtain ⟨z, e1, rfl⟩ := Option.map_eq_some_iff.mp e
    obtain ⟨h1, h2⟩ := ih e1
    refine ⟨by rw [List.map_cons, ← h1]; rfl, fun p hp => ?_⟩
    rcases List.mem_cons.mp hp with e | hp
    · rw [e]; exact (show InP (a, b) from (of_decide_eq_true h : 0 ≤ a ∧ a < 64 ∧ 0 ≤ b ∧ b < 64))
    · exact h2 p hp
  | case3 => intro ps e; cases e
  | case4 => intro ps e; cases e
theorem dc_cd {p : Int × Int} (h : InP p) : dcP (cdP p) = p := by
  obtain ⟨a, b⟩ := p
  obtain ⟨h1, h2, h3, h4⟩ := h
  unfold dcP cdP
  dsimp only at *
  refine Prod.ext ?_ ?_
  · show (a * 64 + b) / 64 = a
    omega
  · show (a * 64 + b) % 64 = b
    omega
theorem pairs_refs {K : PySem.W.Frag} {F : Hp} : ∀ {ps : List (Int × Int)} {vs : List V}, DpAll K F vs (ps.map prD) →
    ∃ ks : List (Addr × List Int), vs = ks.map (fun q => V.ref q.1) ∧ ks.map (·.2) = ps.map (fun p => [p.1, p.2]) ∧ ∀ q ∈ ks, SqT K F q.1 (q.2.map V.int) ∧ Dp K F (V.ref q.1) (.tuple (q.2.map PyData.int))
  | [], vs, h => by cases h; exact ⟨[], rfl, rfl, fun q h => by cases h⟩
  | p :: ps, _, .cons (v := v) (vs := vs) h hs => by
    obtain ⟨ks, e1, e2, e3⟩ := pairs_refs hs
    have h0 := h
    cases h with
    | tup hq hd =>
      rename_i a xs
      have hv := dpAll_ints (ns := [p.1, p.2]) hd
      subst hv
      refine ⟨(a, [p.1, p.2]) :: ks, by rw [e1]; rfl, by rw [List.map_cons, e2]; rfl, fun q hm => ?_⟩
      rcases List.mem_cons.mp hm with e | hm
      · rw [e]; exact ⟨hq, h0⟩
      · exact e3 q hm
/-- sorted, without repetition -/
def srtP (ps : List (Int × Int)) : List (Int × Int) := (snub (ps.map cdP)).map dcP
theorem srtP_mem {ps : List (Int × Int)} (h : ∀ p ∈ ps, InP p) {q : Int × Int} : q ∈ srtP ps ↔ q ∈ ps := by
  unfold srtP
  rw [List.mem_map]
  constructor
  · rintro ⟨m, hm, rfl⟩
    obtain ⟨p, hp, rfl⟩ := List.mem_map.mp (mem_snub.mp hm)
    rw [dc_cd (h p hp)]
    exact hp
  · intro hq
    exact ⟨cdP q, mem_snub.mpr (List.mem_map_of_mem hq), dc_cd (h q hq)⟩
theorem code_cd {q : List Int} {p : Int × Int} (e : q = [p.1, p.2]) : TS.code 64 q = cdP p := by
  rw [e, code_pair]
  rfl
section
variable {c : Co} {X : Cx} {a ce : Expr}
def sSrtSetP (f : SE) : SI := fun ρ => match f ρ with
  | some (x, ρ1) => match res ρ1 x with
    | some (.list ds) => match pairsOf ds with
      | some ps => if ps.length < 60 then some ((srtP ps).map prD, ρ1) else none
      | none => none
    | _ => none
  | none => none
theorem dpAll_refs {K : PySem.W.Frag} {F : Hp} : ∀ {L : List (Addr × List Int)}, (∀ q ∈ L, Dp K F (V.ref q.1) (.tuple (q.2.map PyData.int))) → DpAll K F (L.map fun q => V.ref q.1) (L.map fun q => PyData.tuple (q.2.map PyData.int))
  | [], _ => .nil
  | q :: L, h => .cons (h q (List.mem_cons_self ..)) (dpAll_refs fun r hr => h r (List.mem_cons_of_mem _ hr))
theorem ef_srtSetP {f : SE} (hK : X.K = c.K) (h : ∀ {te : TE}, PE X a te → PE X ce (tCB (rSortedT X.K X.prog X.w) (tCons (tCB (rSetOfT X.K X.prog X.w) (tCons te tNil)) tNil))) (ha : EO c X a f) : EF c X ce (sSrtSetP f) := by
  refine ⟨pe_imp (h ha.pe) fun σ H Q ⟨F, ρ, x, ρ', R, e, k⟩ => ?_⟩
  unfold sSrtSetP at e
  split at e
  · rename_i y ρ1 e1
    split at e
    · rename_i ds e2
      split at e
      · rename_i ps e3
        split at e
        · rename_i hl
          cases e
          refine ⟨F, ρ, y, _, R, e1, fun v H1 F1 s1 R1 o1 => ?_⟩
          obtain ⟨p, vs, rfl, hs, hd⟩ := (R1.vw o1 e2).list R1.sub
          obtain ⟨ed, hin⟩ := pairsOf_eq e3
          rw [ed] at hd
          obtain ⟨ks, rfl, ek, hk⟩ := pairs_refs hd
          have len : ks.length = ps.length := by
            have := congrArg List.length ek
            rw [List.length_map, List.length_map] at this
            exact this
          have of : ∀ q ∈ ks, ∃ r ∈ ps, q.2 = [r.1, r.2] := fun q hq => by
            have : q.2 ∈ ps.map (fun p => [p.1, p.2]) := ek ▸ List.mem_map_of_mem (f := fun q : Addr × List Int => q.2) hq
            obtain ⟨r, hr, e⟩ := List.mem_map.mp this
            exact ⟨r, hr, e.symm⟩
          have back : ∀ r ∈ ps, ∃ q ∈ ks, q.2 = [r.1, r.2] := fun r hr => by
            have : [r.1, r.2] ∈ ks.map (·.2) := ek ▸ List.mem_map_of_mem (f := fun p : Int × Int => [p.1, p.2]) hr
            obtain ⟨q, hq, e⟩ := List.mem_map.mp this
            exact ⟨q, hq, e⟩
          show rSetOfT X.K X.prog X.w [V.ref p] H1 (fun x H1 => rSortedT X.K X.prog X.w [x] H1 Q)
          rw [hK]
          refine ⟨p, ks, rfl, hs, fun q hq => sqT_same R1.sub (hk q hq).1, by omega, fun b L hb sub all => ?_⟩
          show rSortedT c.K X.prog X.w [V.ref b] _ Q
          have s2 : Same H1 (upd H1 b (SetTO X.prog X.w b L)) := fun d o z => by rw [upd_ne (ne_of_none z hb)]; exact z
          refine ⟨b, L, 2, 64, rfl, upd_same, fun q hq => sqT_same s2 (sqT_same R1.sub (hk q (sub q hq)).1), by decide, fun q hq => ?_, fun L' p' pm nd l64 pw hp => ?_⟩
          · obtain ⟨r, hr, e⟩ := of q (sub q hq)
            rw [e]
            refine ⟨rfl, fun m hm => ?_⟩
            obtain ⟨h1, h2, h3, h4⟩ := hin r hr
            rcases List.mem_cons.mp hm with e | hm
            · rw [e]; exact ⟨h1, h2⟩
            · rcases List.mem_cons.mp hm with e | hm
              · rw [e]; exact ⟨h3, h4⟩
              · cases hm
          · have inL : ∀ q ∈ L', q ∈ ks := fun q hq => sub q (pm.mem_iff.mp hq)
            have codes : L'.map (fun q => TS.code 64 q.2) = snub (ps.map cdP) := by
              refine up_one ?_ snub_up fun m => ?_
              · rw [List.pairwise_map]
                have nd2 : L'.Pairwise (fun q r => q.2 ≠ r.2) := List.pairwise_map.mp nd
                refine (pw.and nd2).imp_of_mem fun {q r} hq hr ⟨le, ne⟩ => ?_
                obtain ⟨x, hx, e1⟩ := of q (inL q hq)
                obtain ⟨z, hz, e2⟩ := of r (inL r hr)
                rw [code_cd e1, code_cd e2] at le ⊢
                rcases Int.lt_or_eq_of_le le with lt | eq
                · exact lt
                · exfalso
                  have : x = z := by rw [← dc_cd (hin x hx), ← dc_cd (hin z hz), eq]
                  rw [e1, e2, this] at ne
                  exact ne rfl
              · rw [mem_snub, List.mem_map, List.mem_map]
                constructor
                · rintro ⟨q, hq, rfl⟩
                  obtain ⟨r, hr, e⟩ := of q (inL q hq)
                  exact ⟨r, hr, (code_cd e).symm⟩
                · rintro ⟨r, hr, rfl⟩
                  obtain ⟨q, hq, e⟩ := back r hr
                  obtain ⟨q', hq', e'⟩ := List.mem_map.mp (all q hq)
                  exact ⟨q', pm.mem_iff.mpr hq', code_cd (e'.trans e)⟩
            have data : (L'.map fun q => PyData.tuple (q.2.map PyData.int)) = (srtP ps).map prD := by
              unfold srtP
              rw [← codes, List.map_map, List.map_map]
              refine List.map_congr_left fun q hq => ?_
              obtain ⟨r, hr, e⟩ := of q (inL q hq)
              show _ = prD (dcP (TS.code 64 q.2))
              rw [code_cd e, dc_cd (hin r hr), e]
              rfl
            have hd' : DpAll c.K F1 (L'.map fun q => V.ref q.1) ((srtP ps).map prD) := by
              rw [← data]
              exact dpAll_refs fun q hq => (hk q (inL q hq)).2
            have R2 : Rl c F1 (upd H1 b (SetTO X.prog X.w b L)) σ ρ' := R1.xt (Xt.raw R1.sub hb)
            obtain ⟨R3, f3⟩ := R2.fresh hp hd'
            exact k p' _ F1 s1 R3 f3
        · cases e
      · cases e
    · cases e
  · cases e
/-- one new list or another -/
def sOrI (f g : SI) : SI := fun ρ => match f ρ with
  | some r => some r
  | none => g ρ
theorem ef_or2 {e : Expr} {f g : SI} (hf : EF c X e f) (hg : EF c X e g) : EF c X e (sOrI f g) := by
  have h1 := hf.pe
  have h2 := hg.pe
  refine ⟨⟨fun pins s σ H Q I ⟨F, ρ, x, ρ', R, q, k⟩ => ?_⟩⟩
  unfold sOrI at q
  cases e1 : f ρ with
  | none =>
    rw [e1] at q
    exact h2.run pins s σ H Q I ⟨F, ρ, x, ρ', R, q, k⟩
  | some r =>
    rw [e1] at q
    cases q
    exact h1.run pins s σ H Q I ⟨F, ρ, x, ρ', R, e1, k⟩
end
end PD

/-! x > y of data -/
namespace PD
open PySem PySem.Spec PyProof.Rows L2 GxR LG
section
variable {X : Cx}
def rGtD (K : PySem.W.Frag) : R2 := fun x y H Q => ∃ d e, Dp K H x d ∧ Dp K H y e ∧ W.alike d e = true ∧ d ≠ .none ∧ d.depth ≤ 32 ∧ Q (.bl (W.dataLt e d)) H
theorem op_gtD (hu : X.A.units + 64 < cLine) : OpR X (compareOp .Gt) (rGtD X.K) := by
  intro pins s σ H x y v u Q I rx ry h
  obtain ⟨d, e, hx, hy, hal, hn, hd, q⟩ := h
  obtain ⟨as, ra⟩ := Dp.reads I _ _ _ hx rx
  obtain ⟨bs, rb⟩ := Dp.reads I _ _ _ hy ry
  exact W.gt_data ra rb hal hn (by have := Nat.min_le_left d.depth e.depth; omega) ⟨.bl _, H, I, rfl, q⟩
end
def noneD : PyData → Bool
  | .none => true
  | _ => false
def fGtD (d e : PyData) : Option PyData := if W.alike d e && !noneD d && decide (d.depth ≤ 32) then some (.bool (W.dataLt e d)) else none
theorem l2_gtD {K : PySem.W.Frag} : L2ok K (rGtD K) fGtD := by
  intro F H x y d e z Q s hx hy hf k
  unfold fGtD at hf
  split at hf
  · rename_i hc
    cases hf
    rw [Bool.and_eq_true, Bool.and_eq_true] at hc
    refine ⟨d, e, hx.dp s, hy.dp s, hc.1.1, fun z => ?_, of_decide_eq_true hc.2, k _ F H (Xt.refl s) (.bl _)⟩
    rw [z] at hc
    exact absurd hc.1.2 (by simp [noneD])
  · cases hf
end PD

/-! (x,) * k -/
namespace PD
open PySem PySem.Spec PyProof.Rows L2 GxR LG
def rRepF (K : PySem.W.Frag) : R2 := fun x y H Q => ∃ l k v, x = .ref l ∧ y = .int k ∧ SqT K H l [v] ∧ 2 ≤ k ∧ k ≤ 1000 ∧ NewT Q H (List.replicate k.toNat v)
theorem flat_one {α : Type} (x : α) : ∀ k : Nat, (List.replicate k [x]).flatten = List.replicate k x
  | 0 => rfl
  | k + 1 => by rw [List.replicate_succ, List.flatten_cons, flat_one x k, List.replicate_succ]; rfl
theorem vals_rep {v : V} {u : Value} (r : RelV v u) : ∀ k : Nat, Vals (List.replicate k v) (List.replicate k u)
  | 0 => .nil
  | k + 1 => .cons r (vals_rep r k)
section
variable {X : Cx}
theorem op_repF : OpR X (binaryOp .Mult) (rRepF X.K) := by
  intro pins s σ H x y v u Q I rx ry h
  obtain ⟨l, k, w, rfl, rfl, hT, h1, h2, q⟩ := h
  cases rx
  obtain ⟨t, rfl⟩ := ry
  obtain ⟨its, r, ⟨⟨cls, dd, data, sl⟩, ho, hc, n, hd⟩, hs⟩ := I.tuple hT
  simp only at hc hd
  subst hc hd
  obtain ⟨z, rfl, rz⟩ := r.one
  have lots : (List.foldl (fun x1 x2 => x1 ++ x2) #[] (List.replicate k.toNat [z].toArray)) = (List.replicate k.toNat z).toArray := by rw [size_rep, flat_one]
  have fits : (List.foldl (fun x1 x2 => x1 ++ x2) #[] (List.replicate k.toNat [z].toArray)).size ≤ sizeLine := by
    rw [lots, List.size_toArray, List.length_replicate, sizeLine_eq]
    omega
  have one : (([z].toArray.size : Nat) : Int) = 1 := rfl
  have c0 : (decide (k < -(2 ^ 63)) || decide (k ≥ 2 ^ 63)) = false := by rw [decide_eq_false (by omega), decide_eq_false (by omega)] <;> rfl
  have c1 : ([z].toArray.isEmpty || k == 1) = false := beq_eq_false_iff_ne.mpr (by omega)
  have c2 : (decide (k ≤ 0) || [z].toArray.isEmpty) = false := by rw [decide_eq_false (by omega)]; rfl
  have c3 : ¬ (([z].toArray.size : Nat) : Int) * k > (2 ^ 63 - 1) / 8 := by rw [one, Int.one_mul]; omega
  have c4 : Builtin.Tuple.tupleTooMany ((([z].toArray.size : Nat) : Int) * k) = false := by
    unfold Builtin.Tuple.tupleTooMany
    rw [one, Int.one_mul, sizeLine_eq]
    exact decide_eq_false (by omega)
  refine wpAny_binaryOp_repeat_ref (T := "tuple") (U := "int") (by decide) ⟨_, ho, rfl⟩ (fun s' => typeIs_int s' k t) noFill_tuple_mul F.fills_int_mul F.slot_int_rmul repeat_tuple F.slot_int_index.lookup
    (call_meets F.slot_int_rmul (typeIs_int s k t) F.entry_int_rmul (F.args_int_rmul_2 _ _) (int_rmul_tuple k t l [z].toArray n dd sl)
      ⟨ho, rfl, ⟨_, ho, rfl⟩, call_meets F.slot_tuple_mul ⟨_, ho, rfl⟩ F.entry_tuple_mul (F.args_tuple_mul_2 _ _) (tuple_mulW l [z].toArray n dd sl k t c0 c1 c2 c3 c4 fits) ⟨ho, ?_⟩⟩)
  rw [lots]
  exact new_t (s0 := s) (t' := s.toks) I (fun b ob q => Heap.get?_push_of_some _ q) (Nat.le_refl _) (Heap.get?_push_size _ rfl) (vals_rep rz k.toNat) (by rw [List.length_replicate, sizeLine_eq]; omega) q
end
def fRepT : PyData → PyData → Option PyData
  | .tuple [d], .int k => if 2 ≤ k ∧ k ≤ 1000 then some (.tuple (List.replicate k.toNat d)) else none
  | _, _ => none
theorem dpAll_rep1 {K : PySem.W.Frag} {F : Hp} {v : V} {d : PyData} (h : Dp K F v d) : ∀ k : Nat, DpAll K F (List.replicate k v) (List.replicate k d)
  | 0 => .nil
  | k + 1 => .cons h (dpAll_rep1 h k)
theorem l2_repT {K : PySem.W.Frag} : L2ok K (rRepF K) fRepT := by
  intro F H x y d e z Q s hx hy hf k
  unfold fRepT at hf
  split at hf
  · rename_i d0 j
    split at hf
    · rename_i hj
      cases hf
      obtain ⟨a, vs, rfl, ha, hd⟩ := hx.tup s
      cases hd with
      | cons h0 hs0 =>
        cases hs0
        exact ⟨a, j, _, rfl, hy.int, ha, hj.1, hj.2, fun p ob hp hob => k _ _ _ (Xt.new s hp hob) (dp_newT (s.free hp) (dpAll_rep1 h0 j.toNat))⟩
    · cases hf
  · cases hf
end PD

/-! Plain data: sum of a list or a tuple of ints -/
namespace PD
open PySem PySem.Spec PyProof.Rows L2 GxR LG
section
variable {X : Cx} {K : PySem.W.Frag}
def rSumT (K : PySem.W.Frag) : List V → Hp → VK → Prop := fun vs H Q => ∃ (a : Addr) (ns : List Int), vs = [V.ref a] ∧ SqT K H a (ns.map V.int) ∧ Q (.int ns.sum) H
theorem cr_sumT (hc : X.calm = true) : CallR X (.builtin "sum") (rSumT X.K) := by
  intro pins s σ H xs us Q I rv h
  obtain ⟨a, ns, rfl, hs, q⟩ := h
  obtain ⟨u, rfl, ru⟩ := rv.one
  cases (show u = Value.ref a from ru)
  obtain ⟨its, r, p, _⟩ := I.tuple hs
  have hl : s.heap.IsTuple a its.toArray := p
  obtain ⟨ys, hx⟩ := r.ints.allInts.items
  have hn : numsOf its.toArray.toList = ns := by rw [show its.toArray.toList = its from rfl, r.ints.numsOf]
  rw [hx] at hl hn
  rw [nums_intItems] at hn
  refine PySem.W.ktm_sumG (I.ok.hd hc) hl fun h' tk t' hk => ?_
  have e : (PySem.preSum (PySem.numAt ys) ys.size : Int) = ns.sum := by
    rw [preSum_eq, List.take_of_length_le (by simp), hn]
  rw [e]
  exact ⟨.int _, H, I.kept hk, ⟨_, rfl⟩, q⟩
def rSumA (K : PySem.W.Frag) : List V → Hp → VK → Prop := fun vs H Q => rSum K vs H Q ∨ rSumT K vs H Q
theorem cr_sumA (hc : X.calm = true) : CallR X (.builtin "sum") (rSumA X.K) := callr_or (cr_sum hc) (cr_sumT hc)
def fSumA : List PyData → Option PyData
  | [.list ds] => (intsOf ds).map fun ns => .int ns.sum
  | [.tuple ds] => (intsOf ds).map fun ns => .int ns.sum
  | _ => none
theorem ln_sumA : LNok K (rSumA K) fSumA := by
  intro F H vs ds z Q s hv hf k
  unfold fSumA at hf
  split at hf
  · rename_i ds
    obtain ⟨ns, e, rfl⟩ := Option.map_eq_some_iff.mp hf
    obtain ⟨v, rfl, h⟩ := vw1 hv
    obtain ⟨a, us, rfl, ha, hd⟩ := h.list s
    rw [intsOf_eq e] at hd
    rw [dpAll_ints hd] at ha
    exact .inl ⟨a, ns, rfl, ha, k _ F H (Xt.refl s) (.int _)⟩
  · rename_i ds
    obtain ⟨ns, e, rfl⟩ := Option.map_eq_some_iff.mp hf
    obtain ⟨v, rfl, h⟩ := vw1 hv
    obtain ⟨a, us, rfl, ha, hd⟩ := h.tup s
    rw [intsOf_eq e] at hd
    rw [dpAll_ints hd] at ha
    exact .inr ⟨a, ns, rfl, ha, k _ F H (Xt.refl s) (.int _)⟩
  · cases hf
end
end PD

/-! Plain data: what the readings of comprehensions and loops come to -/
namespace PD
open PySem

theorem compL_eq {g : SG} {t : STe} {f : SE} {vs : List Nat} {W : Ev} (b : PyData → Bool) (y : PyData → PyData) : ∀ (items acc : List PyData) (ρ : Ev), wipeE ρ vs = W → acc.length + items.length ≤ 1000000 →
    (∀ d ∈ items, ∃ ρ3, g d W = some ρ3 ∧ wipeE ρ3 vs = W ∧ t ρ3 = some (b d, ρ3) ∧ (b d = true → f ρ3 = some (.d (y d), ρ3))) → ∃ ρ2, compL g t f vs items acc ρ = some (acc ++ (items.filter b).map y, ρ2) ∧ wipeE ρ2 vs = W
  | [], acc, ρ, hw, _, _ => ⟨ρ, by simp [compL], hw⟩
  | d :: ds, acc, ρ, hw, hn, h => by
    obtain ⟨ρ3, h1, h2, h3, h4⟩ := h d (by simp)
    unfold compL
    rw [hw, h1]
    dsimp only
    rw [h3]
    cases hb : b d with
    | false =>
      dsimp only
      obtain ⟨ρ2, e1, e2⟩ := compL_eq b y ds acc ρ3 h2 (by simp at hn; omega) (fun d' hd => h d' (by simp [hd]))
      exact ⟨ρ2, by rw [e1, List.filter_cons_of_neg (by simp [hb])], e2⟩
    | true =>
      dsimp only
      rw [h4 hb]
      dsimp only
      obtain ⟨ρ2, e1, e2⟩ := compL_eq b y ds (acc ++ [y d]) ρ3 h2 (by simp at hn ⊢; omega) (fun d' hd => h d' (by simp [hd]))
      refine ⟨ρ2, ?_, e2⟩
      rw [if_pos (by simp at hn; omega), e1, List.filter_cons_of_pos hb]
      simp
theorem compL_on {α : Type} {g : SG} {t : STe} {f : SE} {vs : List Nat} {W : Ev} (F G : α → PyData) (b : α → Bool) : ∀ (xs : List α) (acc : List PyData) (ρ : Ev), wipeE ρ vs = W → acc.length + xs.length ≤ 1000000 →
    (∀ x ∈ xs, ∃ ρ3, g (F x) W = some ρ3 ∧ wipeE ρ3 vs = W ∧ t ρ3 = some (b x, ρ3) ∧ (b x = true → f ρ3 = some (.d (G x), ρ3))) → ∃ ρ2, compL g t f vs (xs.map F) acc ρ = some (acc ++ (xs.filter b).map G, ρ2) ∧ wipeE ρ2 vs = W
  | [], acc, ρ, hw, _, _ => ⟨ρ, by simp [compL], hw⟩
  | d :: ds, acc, ρ, hw, hn, h => by
    obtain ⟨ρ3, h1, h2, h3, h4⟩ := h d (by simp)
    rw [List.map_cons]
    unfold compL
    rw [hw, h1]
    dsimp only
    rw [h3]
    cases hb : b d with
    | false =>
      dsimp only
      obtain ⟨ρ2, e1, e2⟩ := compL_on F G b ds acc ρ3 h2 (by simp at hn; omega) (fun d' hd => h d' (by simp [hd]))
      exact ⟨ρ2, by rw [e1, List.filter_cons_of_neg (by simp [hb])], e2⟩
    | true =>
      dsimp only
      rw [h4 hb]
      dsimp only
      obtain ⟨ρ2, e1, e2⟩ := compL_on F G b ds (acc ++ [G d]) ρ3 h2 (by simp at hn ⊢; omega) (fun d' hd => h d' (by simp [hd]))
      refine ⟨ρ2, ?_, e2⟩
      rw [if_pos (by simp at hn; omega), e1, List.filter_cons_of_pos hb]
      simp
theorem sComp_on {α : Type} {fi : SI} {g : SG} {t : STe} {f : SE} {vs : List Nat} {ρ ρ1 : Ev} (xs : List α) (F G : α → PyData) (b : α → Bool) (hi : fi ρ = some (xs.map F, ρ1)) (hw : okWipe ρ1 vs = true) (hn : xs.length ≤ 1000000) (hr : restore (wipeE ρ1 vs) ρ1 vs = ρ1)
    (h : ∀ x ∈ xs, ∃ ρ3, g (F x) (wipeE ρ1 vs) = some ρ3 ∧ wipeE ρ3 vs = wipeE ρ1 vs ∧ t ρ3 = some (b x, ρ3) ∧ (b x = true → f ρ3 = some (.d (G x), ρ3))) : sComp fi g t f vs ρ = some ((xs.filter b).map G, ρ1) := by
  unfold sComp
  rw [hi]
  dsimp only
  rw [if_pos hw]
  obtain ⟨ρ2, e1, e2⟩ := compL_on (vs := vs) F G b xs [] ρ1 rfl (by simpa using hn) h
  rw [e1]
  dsimp only
  rw [e2, hr]
  simp
/-- .. that takes all -/
theorem sComp_all {α : Type} {fi : SI} {g : SG} {f : SE} {vs : List Nat} {ρ ρ1 : Ev} (xs : List α) (F G : α → PyData) (hi : fi ρ = some (xs.map F, ρ1)) (hw : okWipe ρ1 vs = true) (hn : xs.length ≤ 1000000) (hr : restore (wipeE ρ1 vs) ρ1 vs = ρ1)
    (h : ∀ x ∈ xs, ∃ ρ3, g (F x) (wipeE ρ1 vs) = some ρ3 ∧ wipeE ρ3 vs = wipeE ρ1 vs ∧ f ρ3 = some (.d (G x), ρ3)) : sComp fi g tYes' f vs ρ = some (xs.map G, ρ1) := by
  have e := sComp_on (t := tYes') (f := f) xs F G (fun _ => true) hi hw hn hr fun x hx => let ⟨ρ3, h1, h2, h3⟩ := h x hx; ⟨ρ3, h1, h2, rfl, fun _ => h3⟩
  rw [e, show xs.filter (fun _ => true) = xs from by induction xs <;> simp_all]
theorem allL_on {α : Type} {g : SG} {f : SE} {vs : List Nat} {W : Ev} (F : α → PyData) (b : α → Bool) : ∀ (xs : List α) (ρ : Ev), wipeE ρ vs = W →
    (∀ d ∈ xs, ∃ ρ3, g (F d) W = some ρ3 ∧ wipeE ρ3 vs = W ∧ f ρ3 = some (.d (.bool (b d)), ρ3)) → ∃ ρ2, allL g f vs (xs.map F) ρ = some (xs.all b, ρ2) ∧ wipeE ρ2 vs = W
  | [], ρ, hw, _ => ⟨ρ, rfl, hw⟩
  | d :: ds, ρ, hw, h => by
    obtain ⟨ρ3, h1, h2, h3⟩ := h d (by simp)
    rw [List.map_cons]
    unfold allL
    rw [hw, h1]
    dsimp only
    rw [h3]
    cases hb : b d with
    | false => exact ⟨ρ3, by simp [hb], h2⟩
    | true =>
      dsimp only
      obtain ⟨ρ2, e1, e2⟩ := allL_on F b ds ρ3 h2 (fun d' hd => h d' (by simp [hd]))
      exact ⟨ρ2, by rw [e1]; simp [hb], e2⟩
theorem sAll_on {α : Type} {fi : SI} {g : SG} {f : SE} {vs : List Nat} {ρ ρ1 : Ev} (xs : List α) (F : α → PyData) (b : α → Bool) (hi : fi ρ = some (xs.map F, ρ1)) (hw : okWipe ρ1 vs = true) (hr : restore (wipeE ρ1 vs) ρ1 vs = ρ1)
    (h : ∀ d ∈ xs, ∃ ρ3, g (F d) (wipeE ρ1 vs) = some ρ3 ∧ wipeE ρ3 vs = wipeE ρ1 vs ∧ f ρ3 = some (.d (.bool (b d)), ρ3)) : sAll fi g f vs ρ = some (.d (.bool (xs.all b)), ρ1) := by
  unfold sAll
  rw [hi]
  dsimp only
  rw [if_pos hw]
  obtain ⟨ρ2, e1, e2⟩ := allL_on (vs := vs) F b xs ρ1 rfl h
  rw [e1]
  dsimp only
  rw [e2, hr]
theorem sComp_eq {fi : SI} {g : SG} {t : STe} {f : SE} {vs : List Nat} {ρ ρ1 : Ev} {items : List PyData} (hi : fi ρ = some (items, ρ1)) (hw : okWipe ρ1 vs = true) (hn : items.length ≤ 1000000) (hr : restore (wipeE ρ1 vs) ρ1 vs = ρ1) (b : PyData → Bool) (y : PyData → PyData)
    (h : ∀ d ∈ items, ∃ ρ3, g d (wipeE ρ1 vs) = some ρ3 ∧ wipeE ρ3 vs = wipeE ρ1 vs ∧ t ρ3 = some (b d, ρ3) ∧ (b d = true → f ρ3 = some (.d (y d), ρ3))) : sComp fi g t f vs ρ = some ((items.filter b).map y, ρ1) := by
  unfold sComp
  rw [hi]
  dsimp only
  rw [if_pos hw]
  obtain ⟨ρ2, e1, e2⟩ := compL_eq (vs := vs) b y items [] ρ1 rfl (by simpa using hn) h
  rw [e1]
  dsimp only
  rw [e2, hr]
  simp
theorem allL_eq {g : SG} {f : SE} {vs : List Nat} {W : Ev} (b : PyData → Bool) : ∀ (items : List PyData) (ρ : Ev), wipeE ρ vs = W →
    (∀ d ∈ items, ∃ ρ3, g d W = some ρ3 ∧ wipeE ρ3 vs = W ∧ f ρ3 = some (.d (.bool (b d)), ρ3)) → ∃ ρ2, allL g f vs items ρ = some (items.all b, ρ2) ∧ wipeE ρ2 vs = W
  | [], ρ, hw, _ => ⟨ρ, rfl, hw⟩
  | d :: ds, ρ, hw, h => by
    obtain ⟨ρ3, h1, h2, h3⟩ := h d (by simp)
    unfold allL
    rw [hw, h1]
    dsimp only
    rw [h3]
    cases hb : b d with
    | false => exact ⟨ρ3, by simp [hb], h2⟩
    | true =>
      dsimp only
      obtain ⟨ρ2, e1, e2⟩ := allL_eq b ds ρ3 h2 (fun d' hd => h d' (by simp [hd]))
      exact ⟨ρ2, by rw [e1]; simp [hb], e2⟩
theorem sAll_eq {fi : SI} {g : SG} {f : SE} {vs : List Nat} {ρ ρ1 : Ev} {items : List PyData} (hi : fi ρ = some (items, ρ1)) (hw : okWipe ρ1 vs = true) (hr : restore (wipeE ρ1 vs) ρ1 vs = ρ1) (b : PyData → Bool)
    (h : ∀ d ∈ items, ∃ ρ3, g d (wipeE ρ1 vs) = some ρ3 ∧ wipeE ρ3 vs = wipeE ρ1 vs ∧ f ρ3 = some (.d (.bool (b d)), ρ3)) : sAll fi g f vs ρ = some (.d (.bool (items.all b)), ρ1) := by
  unfold sAll
  rw [hi]
  dsimp only
  rw [if_pos hw]
  obtain ⟨ρ2, e1, e2⟩ := allL_eq (vs := vs) b items ρ1 rfl h
  rw [e1]
  dsimp only
  rw [e2, hr]
theorem loopS_inv {g : SG} {b : SS} (I : Nat → Ev → Prop) (items : List PyData) (h : ∀ i d ρ, items[i]? = some d → I i ρ → ∃ ρ1 fl ρ2, g d ρ = some ρ1 ∧ b ρ1 = some (fl, ρ2) ∧ (fl = .nx ∨ fl = .ct) ∧ I (i + 1) ρ2) :
    ∀ (n i : Nat) (ρ : Ev), i + n = items.length → I i ρ → ∃ ρ', loopS g b (items.drop i) ρ = some (.nx, ρ') ∧ I items.length ρ'
  | 0, i, ρ, hn, hI => by
    have e : i = items.length := by omega
    subst e
    exact ⟨ρ, by rw [List.drop_length]; rfl, hI⟩
  | n + 1, i, ρ, hn, hI => by
    have hi : i < items.length := by omega
    obtain ⟨ρ1, fl, ρ2, h1, h2, h3, h4⟩ := h i items[i] ρ (List.getElem?_eq_getElem hi) hI
    obtain ⟨ρ', e1, e2⟩ := loopS_inv I items h n (i + 1) ρ2 (by omega) h4
    refine ⟨ρ', ?_, e2⟩
    rw [List.drop_eq_getElem_cons hi]
    simp only [loopS, h1, h2]
    rcases h3 with rfl | rfl
    · exact e1
    · exact e1
theorem sFor_inv {g : SG} {fi : SI} {b : SS} {ρ ρ1 : Ev} {items : List PyData} (I : Nat → Ev → Prop) (hi : fi ρ = some (items, ρ1)) (h0 : I 0 ρ1) (h : ∀ i d ρ, items[i]? = some d → I i ρ → ∃ ρ1 fl ρ2, g d ρ = some ρ1 ∧ b ρ1 = some (fl, ρ2) ∧ (fl = .nx ∨ fl = .ct) ∧ I (i + 1) ρ2) :
    ∃ ρ', sFor g fi b ρ = some (.nx, ρ') ∧ I items.length ρ' := by
  unfold sFor
  rw [hi]
  exact loopS_inv I items h items.length 0 ρ1 (by omega) h0
end PD

/-! Plain data: data of Lean types -/
namespace PD
open PySem PySem.W
/-- data whose values can be laid -/
class Sh (α : Type) [DecidableEq α] [Datum α] : Prop where
  lay : ∀ a : α, (Datum.toD a).canLay0 = true
instance : Sh Int := ⟨fun _ => by simp [Datum.toD, PyData.canLay0]⟩
instance : Sh Bool := ⟨fun _ => by simp [Datum.toD, PyData.canLay0]⟩
section
variable {α β : Type} [DecidableEq α] [Datum α] [Sh α] [DecidableEq β] [Datum β] [Sh β]
theorem layAll : ∀ xs : List α, PyData.canLayAll0 (xs.map Datum.toD) = true
  | [] => by simp [PyData.canLayAll0]
  | x :: xs => by rw [List.map_cons, PyData.canLayAll0, Sh.lay x, layAll xs]; rfl
instance : Sh (List α) := ⟨fun xs => by show (PyData.list (xs.map Datum.toD)).canLay0 = true; rw [PyData.canLay0]; exact layAll xs⟩
instance : Sh (Tup α) := ⟨fun t => by show (PyData.tuple (t.items.map Datum.toD)).canLay0 = true; rw [PyData.canLay0]; exact layAll _⟩
instance : Sh (α × β) := ⟨fun p => by show (PyData.tuple [Datum.toD p.1, Datum.toD p.2]).canLay0 = true; simp [PyData.canLay0, PyData.canLayAll0, Sh.lay]⟩
theorem shaped_toD (h : Datum.depth α ≤ 64) (x : α) : SeqAt.shaped (Datum.toD x) = true := by
  unfold SeqAt.shaped
  rw [Sh.lay x]
  have := Datum.depth_le x
  simp
  omega
theorem eq_toD (x y : α) (h : Datum.depth α ≤ 64 := by decide) : fEq (Datum.toD x) (Datum.toD y) = some (.bool (decide (x = y))) := by
  unfold fEq
  rw [shaped_toD h x, shaped_toD h y, Datum.eqv]
  rfl
theorem ne_toD (x y : α) (h : Datum.depth α ≤ 64 := by decide) : fNe (Datum.toD x) (Datum.toD y) = some (.bool (!decide (x = y))) := by
  unfold fNe
  rw [shaped_toD h x, shaped_toD h y, Datum.eqv]
  rfl
end
theorem eq_int (i j : Int) : fEq (.int i) (.int j) = some (.bool (decide (i = j))) := eq_toD (α := Int) i j
theorem ne_int (i j : Int) : fNe (.int i) (.int j) = some (.bool (!decide (i = j))) := ne_toD (α := Int) i j
theorem bne_dec (i j : Int) : (i != j) = !decide (i = j) := by
  show (!(i == j)) = _
  rw [beq_decide]
theorem eq_listInt (i j : List Int) : fEq (.list (i.map .int)) (.list (j.map .int)) = some (.bool (decide (i = j))) := eq_toD (α := List Int) i j
theorem ne_listInt (i j : List Int) : fNe (.list (i.map .int)) (.list (j.map .int)) = some (.bool (!decide (i = j))) := ne_toD (α := List Int) i j
instance : Datum Nat where
  toD n := .int (n : Nat)
  plain _ := rfl
  eqv a b := by
    show PyData.eqv (.int a) (.int b) = _
    simp only [PyData.eqv]
    rw [beq_decide]
    exact decide_eq_decide.mpr (by omega)
  depth := 0
  depth_le _ := Nat.le_refl _
instance : Sh Nat := ⟨fun _ => by simp [Datum.toD, PyData.canLay0]⟩
/-- ints of numbers -/
abbrev iN (n : Nat) : PyData := .int (n : Nat)
abbrev lN (ns : List Nat) : PyData := .list (ns.map iN)
abbrev tN (ns : List Nat) : PyData := .tuple (ns.map iN)
theorem eq_nat (i j : Nat) : fEq (iN i) (iN j) = some (.bool (decide (i = j))) := eq_toD (α := Nat) i j
theorem ne_nat (i j : Nat) : fNe (iN i) (iN j) = some (.bool (!decide (i = j))) := ne_toD (α := Nat) i j
theorem eq_pair (i j k l : Nat) : fEq (.tuple [iN i, iN j]) (.tuple [iN k, iN l]) = some (.bool (decide ((i, j) = (k, l)))) := eq_toD (α := Nat × Nat) (i, j) (k, l)
theorem ne_pair (i j k l : Nat) : fNe (.tuple [iN i, iN j]) (.tuple [iN k, iN l]) = some (.bool (!decide ((i, j) = (k, l)))) := ne_toD (α := Nat × Nat) (i, j) (k, l)
theorem fMul_small (i j : Int) (h : 0 ≤ i ∧ i < 1000000) : fMul (.int i) (.int j) = some (.int (i * j)) := by
  unfold fMul
  exact if_pos (.inl (by unfold big; omega))
theorem fDiv_small (i j : Int) (h : 0 < j ∧ j < 1000000) : fDiv (.int i) (.int j) = some (.int (i / j)) := by
  unfold fDiv
  exact if_pos ⟨by omega, by omega⟩
theorem fMod_pos (i j : Int) (h : 0 < j) : fMod (.int i) (.int j) = some (.int (i % j)) := by
  unfold fMod
  exact if_pos h
theorem sRg1_small {f : SA} {ρ ρ1 : Ev} {n : Nat} (e : f ρ = some ([.d (iN n)], ρ1)) (h : n < 1000000) : sRg1 f ρ = some ((List.range n).map iN, ρ1) := by
  unfold sRg1
  rw [e]
  show (if (n : Int).natAbs < 4611686018427387904 then some (rangeD 0 (n : Int), ρ1) else none) = _
  rw [if_pos (by omega)]
  unfold rangeD
  simp
theorem sRg2_small {f : SA} {ρ ρ1 : Ev} {n : Nat} (e : f ρ = some ([.d (.int 1), .d (iN n)], ρ1)) (h : n < 1000000) : sRg2 f ρ = some ((List.range (n - 1)).map (fun i => iN (i + 1)), ρ1) := by
  unfold sRg2
  rw [e]
  show (if (1 : Int).natAbs < 4611686018427387904 ∧ (n : Int).natAbs < 4611686018427387904 then some (rangeD 1 (n : Int), ρ1) else none) = _
  rw [if_pos (by omega)]
  unfold rangeD
  have e : ((n : Int) - 1).toNat = n - 1 := by omega
  rw [e]
  congr 2
  apply List.map_congr_left
  intro i _
  show PyData.int _ = PyData.int _
  congr 1
  omega
/-- an item by its place -/
theorem ix_at {xs : List PyData} {j : Nat} {v : PyData} (h : xs[j]? = some v) : fIx (.list xs) (.int (j : Nat)) = some v ∧ fIx (.tuple xs) (.int (j : Nat)) = some v := ⟨L2.atI_nat h, L2.atI_nat h⟩
theorem ix_map {α : Type} {f : α → PyData} {xs : List α} {j : Nat} {v : α} (h : xs[j]? = some v) : fIx (.list (xs.map f)) (.int (j : Nat)) = some (f v) ∧ fIx (.tuple (xs.map f)) (.int (j : Nat)) = some (f v) :=
  ix_at (by rw [List.getElem?_map, h]; rfl)
theorem flat_map (xs : List Nat) : (xs.map iN).all flatD = true := by
  rw [List.all_eq_true]
  intro d hd
  obtain ⟨n, _, rfl⟩ := List.mem_map.mp hd
  rfl
theorem in_lN (x : Nat) (xs : List Nat) : fIn (iN x) (lN xs) = some (.bool (decide (x ∈ xs))) := by
  show (if SeqAt.shaped (Datum.toD x) && SeqAt.shaped (Datum.toD xs) then some (PyData.bool ((xs.map Datum.toD).any fun z => PyData.eqv z (Datum.toD x))) else none) = _
  rw [shaped_toD (by decide), shaped_toD (by decide), any_datum]
  rfl
theorem notIn_lN (x : Nat) (xs : List Nat) : fNotIn (iN x) (lN xs) = some (.bool (!decide (x ∈ xs))) := by
  show (if SeqAt.shaped (Datum.toD x) && SeqAt.shaped (Datum.toD xs) then some (PyData.bool (!(xs.map Datum.toD).any fun z => PyData.eqv z (Datum.toD x))) else none) = _
  rw [shaped_toD (by decide), shaped_toD (by decide), any_datum]
  rfl
theorem in_lP (x : Nat × Nat) (xs : List (Nat × Nat)) : fIn (Datum.toD x) (.list (xs.map Datum.toD)) = some (.bool (decide (x ∈ xs))) := by
  show (if SeqAt.shaped (Datum.toD x) && SeqAt.shaped (Datum.toD xs) then some (PyData.bool ((xs.map Datum.toD).any fun z => PyData.eqv z (Datum.toD x))) else none) = _
  rw [shaped_toD (by decide), shaped_toD (by decide), any_datum]
  simp
theorem intsOf_nat (ns : List Nat) : intsOf (ns.map iN) = some (ns.map fun (n : Nat) => (n : Int)) := by
  have e : ns.map iN = (ns.map fun (n : Nat) => (n : Int)).map PyData.int := by rw [List.map_map]; rfl
  rw [e, intsOf_map]
theorem count_nat (ns : List Nat) (k : Nat) : (ns.map fun (n : Nat) => (n : Int)).count (k : Int) = ns.count k := by
  induction ns with
  | nil => rfl
  | cons x r ih =>
    rw [List.map_cons, List.count_cons, List.count_cons, ih]
    congr 1
    by_cases h : x = k
    · subst h; simp
    · have h' : ¬ (x : Int) = (k : Int) := by omega
      simp [h, h']
theorem fCount_nat (ns : List Nat) (k : Nat) : fCount (lN ns) (iN k) = some (iN (ns.count k)) := by
  show (match intsOf (ns.map iN) with | some ns => some (PyData.int (ns.count (k : Int) : Nat)) | none => none) = _
  rw [intsOf_nat]
  show some (PyData.int _) = _
  rw [count_nat]
theorem foldl_nat (r : List Nat) : ∀ x : Nat, (r.map fun (n : Nat) => (n : Int)).foldl max (x : Int) = ((r.foldl max x : Nat) : Int) := by
  induction r with
  | nil => intro x; rfl
  | cons y r ih =>
    intro x
    rw [List.map_cons, List.foldl_cons, List.foldl_cons, ← ih]
    congr 1
    exact (by omega : max (x : Int) (y : Int) = ((max x y : Nat) : Int))
/-- the greatest -/
def maxN (ns : List Nat) : Nat := ns.foldl max 0
theorem maxI_nat {ns : List Nat} (h : ns ≠ []) : maxI (ns.map fun (n : Nat) => (n : Int)) = some ((maxN ns : Nat) : Int) := by
  cases ns with
  | nil => exact absurd rfl h
  | cons x r =>
    show some _ = some _
    rw [foldl_nat]
    unfold maxN
    rw [List.foldl_cons, Nat.zero_max]
theorem fMax_tN {ns : List Nat} (h : ns ≠ []) : fMax [tN ns] = some (iN (maxN ns)) := by
  show (match intsOf (ns.map iN) with | some ns => (maxI ns).map PyData.int | none => none) = _
  rw [intsOf_nat]
  show (maxI _).map _ = _
  rw [maxI_nat h]
  rfl
end PD

/-! the end: what stands at names, tables -/
namespace PD
open PySem PySem.Spec PyProof.Rows L2 LamX

theorem mkDk {K : PySem.W.Frag} {h : Heap} {mg : Str → Option Value} {x : Str} {st : Stmt} {ps : List Str} {f : Addr} {oc kV doc pm cd ct : Value} {od an : Option Addr} {osl : Array (Option Value)} (X : K.In h) (G : h.Ns mainGlobals mg)
    (a : PySem.W.nsIn K mainGlobals x = some (some (.ref f))) (l : K.lookup f = some ⟨oc, od, .func (PySem.W.fnOf x x (defArgs st) (defBody st) (defScope st) .none kV doc pm an cd ct), osl⟩) (c : PySem.W.codeIn K cd x = true) (k : PySem.W.keepIn K (.ref f) = true)
    (b : ∀ (kV doc pm : Value) (an : Option Addr) (cdv ct : Value) (us : List Value), us.length = ps.length → bindArgs (PySem.W.fnOf x x (defArgs st) (defBody st) (defScope st) .none kV doc pm an cdv ct) ⟨us, []⟩ = pure (ps.zip us)) : ∃ f fd, Dk K mg x st ps f fd :=
  ⟨f, _, fun_mk l c k, PySem.W.mg_of X G a, (fun_mk (st := st) l c k).binds b⟩
theorem mkDg {K : PySem.W.Frag} {h : Heap} {mg : Str → Option Value} {x : Str} {st : Stmt} {ps : List Str} {f cA Pt : Addr} {oc kV doc pm ct : Value} {od an : Option Addr} {osl : Array (Option Value)} {q : Program} {e : Value} {dd : Option Addr} {vs : Array Value} {sl : Array (Option Value)} (X : K.In h) (G : h.Ns mainGlobals mg)
    (tab : ∀ d ∈ recsOf q, ∃ a o fd c P, mg d.name = some (.ref a) ∧ h.get? a = some o ∧ o.data = .func fd ∧ fd.code = .ref c ∧ h.IsCode c P #[] ∧ h.TableAt c P #[]) (hrec : ((recsOf q).any fun e => e.name == x) = true)
    (a : PySem.W.nsIn K mainGlobals x = some (some (.ref f))) (l : K.lookup f = some ⟨oc, od, .func (PySem.W.fnOf x x (defArgs st) (defBody st) (defScope st) .none kV doc pm an (.ref cA) ct), osl⟩) (c : PySem.W.codeIn K (.ref cA) x = true) (k : PySem.W.keepIn K (.ref f) = true)
    (lc : K.lookup cA = some ⟨e, dd, .fields vs, sl⟩) (h11 : vs[11]? = some (.ref Pt)) (nP : K.lookup Pt = none)
    (b : ∀ (kV doc pm : Value) (an : Option Addr) (cdv ct : Value) (us : List Value), us.length = ps.length → bindArgs (PySem.W.fnOf x x (defArgs st) (defBody st) (defScope st) .none kV doc pm an cdv ct) ⟨us, []⟩ = pure (ps.zip us)) :
    ∃ f fd cA Pt, Dg K mg x st ps f fd cA ∧ h.get? Pt = some { cls := .none, data := .fields #[] } ∧ K.lookup Pt = none ∧ PySem.W.CodeHd h cA Pt := by
  have hmg := PySem.W.mg_of X G a
  refine ⟨f, _, cA, Pt, ⟨⟨oc, od, kV, doc, pm, an, ct, osl, rfl, l, c⟩, k, hmg, (fun_mk (st := st) l c k).binds b⟩, ?_, nP, ?_⟩
  all_goals
    obtain ⟨dL, hm, hn1⟩ := List.any_eq_true.mp hrec
    have hn2 : dL.name = x := beq_iff_eq.mp hn1
    obtain ⟨a', o', fd', c', P', h1, h2, h3, h4, h5, h6⟩ := tab dL hm
    rw [hn2, hmg] at h1
    cases h1
    have g1 := X _ _ l
    rw [g1] at h2
    cases h2
    cases h3
    cases h4
    have hd := PySem.W.CodeHd.of h5 h6
    obtain ⟨⟨oc, vc, e1, _, e3, e4⟩, hP⟩ := h6
    have g2 := X _ _ lc
    rw [g2] at e1
    cases e1
    cases e3
    rw [h11] at e4
    cases e4
    first | exact hP | exact hd
theorem walk_ofG {l : PySem.W.OpenLaw} {n k : Nat} {q : Program} {loose : List Str} {XP : (Str → Option Value) → Heap → Prop} {YP : World → Heap → Prop} {d : DefRec} {K : Params → PySem.W.Frag} {CX : World → CXT} {x : Str}
    (hn : l.most = some n) (hn2 : n ≤ sizeLine) (hdf : d.params.defaults = []) (hr : Room k callerA) (hY : ∀ (w : World) (h : Heap), YP w h → (K w.params).In h)
    (F : ∀ (w : World) (mg : Str → Option Value) (fa : Addr) (h : Heap), YP w h → (K w.params).In h → h.Ns mainGlobals mg → mg d.name = some (.ref fa) →
      (∀ d ∈ recsOf q, ∃ a o fd c P, mg d.name = some (.ref a) ∧ h.get? a = some o ∧ o.data = .func fd ∧ fd.code = .ref c ∧ h.IsCode c P #[] ∧ h.TableAt c P #[]) → LawAtS l w (K w.params) (CX w) k n x mg fa h)
    (hCX : ∀ (w : World) (H : Hp) (s : Shared) (e : Value) (s' : Shared), CX w [] H s (fun _ _ _ => False) e s' → False) :
    PySem.W.WalkO q loose XP YP l.row.toRowW d [] (fun f vs => PySem.call f vs) := by
  refine Att.attach_callB hn hdf fun w s₀ s₁ mg mb fa o pm cd doc a vs ns G Y ho hd hcd hmg hobj hints hlen hbits hg => ?_
  have KX := hY w _ Y
  obtain ⟨fd, cs, sp, hT, nT, C, hb, hsp, hF⟩ := F w mg fa _ Y KX G.T.g hmg G.T.tab
  exact law_callTs KX G.T.g G.T.b G.T.builtins G.T.nolimit hg hT nT C G.T.bmain hobj hints (Nat.le_trans hlen hn2) hr hF hb (fun H hH hS => hsp H a ns hlen hbits hH hS) fun H e s' => hCX w H s₁ e s'
end PD
namespace PD
open PySem PySem.Spec PyProof.Rows L2 LamX
theorem law_sp {K : PySem.W.Frag} {T : List Addr} {p : List PyData → Option PyData} {H : Hp} {a : Addr} {ns : List Int} {E : XK} (kt : ∀ b o, K.lookup b = some o → o.cls = .type "tuple" → PlT o) (hT : ∀ P ∈ T, H P = some (.tbl #[])) (h : SqL K H a (ns.map V.int)) (e : p [.list (ns.map PyData.int)] = some (.bool true)) : spP K T p [.ref a] H (fun v _ => v = .bl true) E := by
  have key : ∃ F : Hp, Same F H ∧ (∀ P ∈ T, F P = none) ∧ TF K F ∧ SqL K F a (ns.map V.int) := by
    have one : ∀ o, TFo o → (∀ ps, o ≠ .tbl ps) → H a = some o → Same (upd (fun _ => none) a o) H ∧ (∀ P ∈ T, upd (fun _ => none) a o P = none) ∧ TF K (upd (fun _ => none) a o) := fun o ho no hH => by
      refine ⟨fun b u z => ?_, fun P hP => ?_, fun b u z => ?_, kt⟩
      · by_cases hb : b = a
        · rw [hb, upd_same] at z
          rw [hb, hH, z]
        · rw [upd_ne hb] at z
          cases z
      · by_cases hb : P = a
        · rw [← hb, hT P hP] at hH
          cases hH
          exact absurd rfl (no _)
        · rw [upd_ne hb]
      · by_cases hb : b = a
        · rw [hb, upd_same] at z
          cases z
          exact ho
        · rw [upd_ne hb] at z
          cases z
    rcases h with (h | ⟨o, h⟩) | h
    · obtain ⟨h1, h2, h3⟩ := one (.lst (ns.map V.int)) trivial (fun _ => by simp) h
      exact ⟨_, h1, h2, h3, .inl (.inl upd_same)⟩
    · obtain ⟨h1, h2, h3⟩ := one (.frz o (.lst (ns.map V.int))) trivial (fun _ => by simp) h
      exact ⟨_, h1, h2, h3, .inl (.inr ⟨o, upd_same⟩)⟩
    · exact ⟨fun _ => none, (fun b u (z : (none : Option HO) = some u) => nomatch z), fun _ _ => rfl, ⟨(fun b u (z : (none : Option HO) = some u) => nomatch z), kt⟩, Or.inr h⟩
  obtain ⟨F, hF, fT, tf, hS⟩ := key
  refine ⟨F, [.list (ns.map PyData.int)], .bool true, .cons (.lst hS (ints_dpAll ns)) .nil, hF, fun P hP => ⟨fT P hP, ?_⟩, tf, e, fun v H' F' _ _ _ _ _ _ dv => ?_⟩
  · exact ⟨#[], hT P hP, by first | trivial | exact .nil | constructor⟩
  · cases dv
    rfl
/-- no tuple of the frame bears a dict -/
def ktB (K : PySem.W.Frag) : Bool := K.all fun p => !(match p.2.cls with | .type t => t == "tuple" | _ => false) || (p.2.dict.isNone && p.2.slots.isEmpty)
theorem kt_of {K : PySem.W.Frag} (h : ktB K = true) : ∀ b o, K.lookup b = some o → o.cls = .type "tuple" → PlT o := by
  unfold ktB at h
  induction K with
  | nil => intro b o e; cases e
  | cons q r ih =>
    intro b o e c
    rw [List.all_cons, Bool.and_eq_true] at h
    rw [List.lookup_cons] at e
    split at e
    · cases e
      have := h.1
      rw [c] at this
      simpa [PlT] using this
    · exact ih h.2 b o e c
end PD
namespace PD
open PySem PySem.Spec PyProof.Rows L2 LamX
theorem withDk {Z : Prop} {K : PySem.W.Frag} {h : Heap} {mg : Str → Option Value} {x : Str} {st : Stmt} {ps : List Str} {f : Addr} {oc kV doc pm cd ct : Value} {od an : Option Addr} {osl : Array (Option Value)} (X : K.In h) (G : h.Ns mainGlobals mg)
    (a : PySem.W.nsIn K mainGlobals x = some (some (.ref f))) (l : K.lookup f = some ⟨oc, od, .func (PySem.W.fnOf x x (defArgs st) (defBody st) (defScope st) .none kV doc pm an cd ct), osl⟩) (c : PySem.W.codeIn K cd x = true) (k : PySem.W.keepIn K (.ref f) = true)
    (b : ∀ (kV doc pm : Value) (an : Option Addr) (cdv ct : Value) (us : List Value), us.length = ps.length → bindArgs (PySem.W.fnOf x x (defArgs st) (defBody st) (defScope st) .none kV doc pm an cdv ct) ⟨us, []⟩ = pure (ps.zip us))
    (next : ∀ f fd, Dk K mg x st ps f fd → Z) : Z := by
  obtain ⟨f, fd, D⟩ := mkDk X G a l c k b
  exact next f fd D
theorem withDg {Z : Prop} {K : PySem.W.Frag} {h : Heap} {mg : Str → Option Value} {x : Str} {st : Stmt} {ps : List Str} {f cA Pt : Addr} {oc kV doc pm ct : Value} {od an : Option Addr} {osl : Array (Option Value)} {q : Program} {e : Value} {dd : Option Addr} {vs : Array Value} {sl : Array (Option Value)} (X : K.In h) (G : h.Ns mainGlobals mg)
    (tab : ∀ d ∈ recsOf q, ∃ a o fd c P, mg d.name = some (.ref a) ∧ h.get? a = some o ∧ o.data = .func fd ∧ fd.code = .ref c ∧ h.IsCode c P #[] ∧ h.TableAt c P #[]) (hrec : ((recsOf q).any fun e => e.name == x) = true)
    (a : PySem.W.nsIn K mainGlobals x = some (some (.ref f))) (l : K.lookup f = some ⟨oc, od, .func (PySem.W.fnOf x x (defArgs st) (defBody st) (defScope st) .none kV doc pm an (.ref cA) ct), osl⟩) (c : PySem.W.codeIn K (.ref cA) x = true) (k : PySem.W.keepIn K (.ref f) = true)
    (lc : K.lookup cA = some ⟨e, dd, .fields vs, sl⟩) (h11 : vs[11]? = some (.ref Pt)) (nP : K.lookup Pt = none)
    (b : ∀ (kV doc pm : Value) (an : Option Addr) (cdv ct : Value) (us : List Value), us.length = ps.length → bindArgs (PySem.W.fnOf x x (defArgs st) (defBody st) (defScope st) .none kV doc pm an cdv ct) ⟨us, []⟩ = pure (ps.zip us))
    (next : ∀ f fd cA Pt, Dg K mg x st ps f fd cA → h.get? Pt = some { cls := .none, data := .fields #[] } → K.lookup Pt = none → PySem.W.CodeHd h cA Pt → Z) : Z := by
  obtain ⟨f, fd, cA, Pt, D, t1, t2, t3⟩ := mkDg X G tab hrec a l c k lc h11 nP b
  exact next f fd cA Pt D t1 t2 t3
theorem Dk.bindsTo {K : PySem.W.Frag} {mg : Str → Option Value} {x : Str} {st : Stmt} {p : Str} {f : Addr} {fd : FuncData} (D : Dk K mg x st [p] f fd) (b : ∀ (kV doc pm : Value) (an : Option Addr) (cdv ct : Value) (u : Value), bindArgs (PySem.W.fnOf x x (defArgs st) (defBody st) (defScope st) .none kV doc pm an cdv ct) ⟨[u], []⟩ = pure [(p, u)]) :
    ∀ (s : Shared) (u : Value), BindsTo s fd ⟨[u], []⟩ [(p, u)] := fun s u => by
  obtain ⟨oc, od, kV, doc, pm, an, cdv, ct, osl, rfl, _⟩ := D.fn.ex
  exact .of_eq (b _ _ _ _ _ _ _)
end PD
namespace PD
open PySem PySem.Spec PyProof.Rows L2 LamX
theorem withC {Z : Prop} {K : PySem.W.Frag} {h : Heap} {mg : Str → Option Value} {x : Str} {v : Value} (X : K.In h) (G : h.Ns mainGlobals mg) (a : PySem.W.nsIn K mainGlobals x = some (some v)) (next : mg x = some v → Z) : Z := next (PySem.W.mg_of X G a)
end PD
namespace PD
open PySem PySem.Spec PyProof.Rows L2 LamX
theorem lawAtS_of {l : PySem.W.OpenLaw} {w : World} {K : PySem.W.Frag} {k n : Nat} {mg : Str → Option Value} {fa : Addr} {h : Heap} {fd : FuncData} (cs : List (Addr × Addr)) (p : List PyData → Option PyData) {x : Str} (kt : ktB K = true)
    (t1 : ∀ q ∈ cs, h.get? q.2 = some { cls := .none, data := .fields #[] }) (t2 : ∀ q ∈ cs, K.lookup q.2 = none) (t3 : ∀ q ∈ cs, PySem.W.CodeHd h q.1 q.2) (hb : ∀ (s : Shared) (u : Value), BindsTo s fd ⟨[u], []⟩ [(x, u)])
    (hm : ∀ ns : List Int, ns.length ≤ n → (∀ z ∈ ns, Builtin.Int.intBits z ≤ 1048576) → p [.list (ns.map PyData.int)] = some (.bool true))
    (hF : ∀ base : Heap, K.In base → base.Ns mainGlobals mg → (∀ q ∈ cs, GxR.TabB base mg q.1 q.2) → FnOk l.prog w K mg base CX0 k fa fd [x] (spP K (cs.map (·.2)) p)) : LawAtS l w K CX0 k n x mg fa h :=
  ⟨fd, cs, spP K (cs.map (·.2)) p, t1, t2, t3, hb, fun H a ns hl hbits hT hS => law_sp (kt_of kt) (fun P hP => by
    obtain ⟨q, hq, e⟩ := List.mem_map.mp hP
    rw [← e]
    exact hT q hq) hS (hm ns hl hbits), fun base KB GB hT => hF base KB GB fun q hq => ⟨(hT q hq).code, (hT q hq).bm, (hT q hq).gP⟩⟩
end PD

namespace S37
open PySem PySem.Spec PyProof.Rows L2 GxR LG PD
def topS (i : Nat) : Stmt := PySem.Challenge.pw_starlands_k37_across_greater_islands.main.body.getD i (.Pass ⟨0, 0, 0, 0⟩)
structure Bt (mg : Str → Option Value) : Prop where
  n_abs : mg "abs" = none
  n_bool : mg "bool" = none
  n_int : mg "int" = none
  n_isinstance : mg "isinstance" = none
  n_len : mg "len" = none
  n_max : mg "max" = none
  n_range : mg "range" = none
  n_sum : mg "sum" = none
  m_comb : mg "comb" = some (.builtin "math.comb")
  m_factorial : mg "factorial" = some (.builtin "math.factorial")
  m_gcd : mg "gcd" = some (.builtin "math.gcd")
  m_perm : mg "perm" = some (.builtin "math.perm")
  c_GREAT_ARMS : ∃ t, mg "GREAT_ARMS" = some (.int 12 t)
  c_GREAT_LENGTH : ∃ t, mg "GREAT_LENGTH" = some (.int 30 t)
  c_MOST_LANDS : ∃ t, mg "MOST_LANDS" = some (.int 12 t)
section
variable {P : Program} {w : World} {K : PySem.W.Frag} {mg : Str → Option Value} {base : Heap} {T : List Addr}
/-! ### is_whole -/
abbrev st_is_whole : Stmt := topS 11
theorem sc_is_whole : FnScope ["value"] ["value"] (defScope st_is_whole) := ⟨rfl, rfl, rfl, by decide +kernel, rfl, by decide +kernel, by decide +kernel⟩
def g_is_whole : SS := (sSeq (sRet (sAnd (sIsi "int" (sV 0)) (sNot (sIsi "bool" (sV 0))))) sNx)
def p_is_whole : List PyData → Option PyData := fun ds => if ds.length = 1 then bodyP g_is_whole 1 ds else none
theorem ok_is_whole {f : Addr} {fd : FuncData} (D : Dk K mg "is_whole" st_is_whole ["value"] f fd) (B : Bt mg) : FnOk P w K mg base CX0 1 f fd ["value"] (spP K T p_is_whole) :=
  fn_pure D.fn sc_is_whole g_is_whole (by decide) fun cdv A outer s H E H0 F0 io hr => (ess_cons (es_ret (eo_and (eo_isi rfl (by decide) (fun h => pe_callB call_isi (by rfl) B.n_isinstance PyProof.Rows.boot_isinstance (pa_cons h (pa_cons (pe_bltn (u := .type "int") (by rfl) B.n_int (by decide +kernel) rfl) pa_nil))) (eo_v 0 (pv 0))) (eo_one (eo_not (eo_isi rfl (by decide) (fun h => pe_callB call_isi (by rfl) B.n_isinstance PyProof.Rows.boot_isinstance (pa_cons h (pa_cons (pe_bltn (u := .type "bool") (by rfl) B.n_bool (by decide +kernel) rfl) pa_nil))) (eo_v 0 (pv 0))))))) ess_nil)
/-! ### is_integer -/
abbrev st_is_integer : Stmt := topS 12
theorem sc_is_integer : FnScope ["value", "low", "high"] ["value", "low", "high"] (defScope st_is_integer) := ⟨rfl, rfl, rfl, by decide +kernel, rfl, by decide +kernel, by decide +kernel⟩
def g_is_integer : SS := (sSeq (sRet (sAnd (sCall p_is_whole [] (sCons (sV 0) sNil)) (sChain fLe fLe (sV 1) (sV 0) (sV 2)))) sNx)
def p_is_integer : List PyData → Option PyData := fun ds => if ds.length = 3 then bodyP g_is_integer 3 ds else none
theorem ok_is_integer {f : Addr} {fd : FuncData} (D : Dk K mg "is_integer" st_is_integer ["value", "low", "high"] f fd) (B : Bt mg) {f_is_whole : Addr} {fd_is_whole : FuncData} (D_is_whole : Dk K mg "is_whole" st_is_whole ["value"] f_is_whole fd_is_whole) (G_is_whole : FnOk P w K mg base CX0 1 f_is_whole fd_is_whole ["value"] (spP K T p_is_whole)) : FnOk P w K mg base CX0 2 f fd ["value", "low", "high"] (spP K T p_is_integer) :=
  fn_pure D.fn sc_is_integer g_is_integer (by decide) fun cdv A outer s H E H0 F0 io hr => (ess_cons (es_ret (eo_and (eo_call (fun h => pe_call G_is_whole (hr.mono (by decide)) (by rfl) D_is_whole.mg D_is_whole.fn.kp D_is_whole.b .nil pass0 h) (ea_cons (eo_v 0 (pv 0)) ea_nil) fun _ => .nil) (eo_one (eo_chain op_le op_le l2_le l2_le (eo_v 1 (pv 1)) (eo_v 0 (pv 0)) (eo_v 2 (pv 2)))))) ess_nil)
/-! ### check_arms -/
abbrev st_check_arms : Stmt := topS 13
theorem sc_check_arms : FnScope ["arms", "most"] ["arms", "most"] (defScope st_check_arms) := ⟨rfl, rfl, rfl, by decide +kernel, rfl, by decide +kernel, by decide +kernel⟩
def g_check_arms : SS := (sSeq (sIfS (tNot' (sTr (sCall p_is_integer [] (sCons (sV 0) (sCons (sC (.int 3)) (sCons (sV 1) sNil)))))) (sSeq sNever sNx) sNx) sNx)
def p_check_arms : List PyData → Option PyData := fun ds => if ds.length = 2 then bodyP g_check_arms 2 ds else none
theorem ok_check_arms {f : Addr} {fd : FuncData} (D : Dd K mg "check_arms" st_check_arms ["arms", "most"] f fd [V.int (4)]) (B : Bt mg) {f_is_integer : Addr} {fd_is_integer : FuncData} (D_is_integer : Dk K mg "is_integer" st_is_integer ["value", "low", "high"] f_is_integer fd_is_integer) (G_is_integer : FnOk P w K mg base CX0 2 f_is_integer fd_is_integer ["value", "low", "high"] (spP K T p_is_integer)) : FnOk P w K mg base CX0 3 f fd ["arms", "most"] (spP K T p_check_arms) :=
  D.pure sc_check_arms g_check_arms (by decide) fun cdv A outer s H E H0 F0 io hr => (ess_cons (es_if (et_not (et_tr (eo_call (fun h => pe_call G_is_integer (hr.mono (by decide)) (by rfl) D_is_integer.mg D_is_integer.fn.kp D_is_integer.b .nil pass0 h) (ea_cons (eo_v 0 (pv 0)) (ea_cons eo_int (ea_cons (eo_v 1 (pv 1)) ea_nil))) fun _ => .nil))) (ess_cons es_never ess_nil) ess_nil) ess_nil)
/-! ### check_length -/
abbrev st_check_length : Stmt := topS 14
theorem sc_check_length : FnScope ["length", "most"] ["length", "most"] (defScope st_check_length) := ⟨rfl, rfl, rfl, by decide +kernel, rfl, by decide +kernel, by decide +kernel⟩
def g_check_length : SS := (sSeq (sIfS (tNot' (sTr (sCall p_is_integer [] (sCons (sV 0) (sCons (sC (.int 1)) (sCons (sV 1) sNil)))))) (sSeq sNever sNx) sNx) sNx)
def p_check_length : List PyData → Option PyData := fun ds => if ds.length = 2 then bodyP g_check_length 2 ds else none
theorem ok_check_length {f : Addr} {fd : FuncData} (D : Dd K mg "check_length" st_check_length ["length", "most"] f fd [V.int (4)]) (B : Bt mg) {f_is_integer : Addr} {fd_is_integer : FuncData} (D_is_integer : Dk K mg "is_integer" st_is_integer ["value", "low", "high"] f_is_integer fd_is_integer) (G_is_integer : FnOk P w K mg base CX0 2 f_is_integer fd_is_integer ["value", "low", "high"] (spP K T p_is_integer)) : FnOk P w K mg base CX0 3 f fd ["length", "most"] (spP K T p_check_length) :=
  D.pure sc_check_length g_check_length (by decide) fun cdv A outer s H E H0 F0 io hr => (ess_cons (es_if (et_not (et_tr (eo_call (fun h => pe_call G_is_integer (hr.mono (by decide)) (by rfl) D_is_integer.mg D_is_integer.fn.kp D_is_integer.b .nil pass0 h) (ea_cons (eo_v 0 (pv 0)) (ea_cons eo_int (ea_cons (eo_v 1 (pv 1)) ea_nil))) fun _ => .nil))) (ess_cons es_never ess_nil) ess_nil) ess_nil)
/-! ### check_lands -/
abbrev st_check_lands : Stmt := topS 15
theorem sc_check_lands : FnScope ["length", "lands"] ["length", "lands"] (defScope st_check_lands) := ⟨rfl, rfl, rfl, by decide +kernel, rfl, by decide +kernel, by decide +kernel⟩
def g_check_lands : SS := (sSeq (sIfS (tNot' (sTr (sCall p_is_integer [] (sCons (sV 1) (sCons (sC (.int 2)) (sCons (s2 fAdd (sV 0) (sC (.int 1))) sNil)))))) (sSeq sNever sNx) sNx) sNx)
def p_check_lands : List PyData → Option PyData := fun ds => if ds.length = 2 then bodyP g_check_lands 2 ds else none
theorem ok_check_lands {f : Addr} {fd : FuncData} (D : Dk K mg "check_lands" st_check_lands ["length", "lands"] f fd) (B : Bt mg) {f_is_integer : Addr} {fd_is_integer : FuncData} (D_is_integer : Dk K mg "is_integer" st_is_integer ["value", "low", "high"] f_is_integer fd_is_integer) (G_is_integer : FnOk P w K mg base CX0 2 f_is_integer fd_is_integer ["value", "low", "high"] (spP K T p_is_integer)) : FnOk P w K mg base CX0 3 f fd ["length", "lands"] (spP K T p_check_lands) :=
  fn_pure D.fn sc_check_lands g_check_lands (by decide) fun cdv A outer s H E H0 F0 io hr => (ess_cons (es_if (et_not (et_tr (eo_call (fun h => pe_call G_is_integer (hr.mono (by decide)) (by rfl) D_is_integer.mg D_is_integer.fn.kp D_is_integer.b .nil pass0 h) (ea_cons (eo_v 1 (pv 1)) (ea_cons eo_int (ea_cons (eo_op op_add3 l2_add3 (eo_v 0 (pv 0)) eo_int) ea_nil))) fun _ => .nil))) (ess_cons es_never ess_nil) ess_nil) ess_nil)
/-! ### check_great_island -/
abbrev st_check_great_island : Stmt := topS 16
theorem sc_check_great_island : FnScope ["arms", "length", "lands"] ["arms", "length", "lands"] (defScope st_check_great_island) := ⟨rfl, rfl, rfl, by decide +kernel, rfl, by decide +kernel, by decide +kernel⟩
def g_check_great_island : SS := (sSeq (sExp (sCall p_check_arms [] (sCons (sV 0) (sCons (sC (.int (12))) sNil)))) (sSeq (sExp (sCall p_check_length [] (sCons (sV 1) (sCons (sC (.int (30))) sNil)))) (sSeq (sExp (sCall p_check_lands [] (sCons (sV 1) (sCons (sV 2) sNil)))) sNx)))
def p_check_great_island : List PyData → Option PyData := fun ds => if ds.length = 3 then bodyP g_check_great_island 3 ds else none
theorem ok_check_great_island {f : Addr} {fd : FuncData} (D : Dk K mg "check_great_island" st_check_great_island ["arms", "length", "lands"] f fd) (B : Bt mg) {f_check_arms : Addr} {fd_check_arms : FuncData} (D_check_arms : Dd K mg "check_arms" st_check_arms ["arms", "most"] f_check_arms fd_check_arms [V.int (4)]) (G_check_arms : FnOk P w K mg base CX0 3 f_check_arms fd_check_arms ["arms", "most"] (spP K T p_check_arms)) {f_check_length : Addr} {fd_check_length : FuncData} (D_check_length : Dd K mg "check_length" st_check_length ["length", "most"] f_check_length fd_check_length [V.int (4)]) (G_check_length : FnOk P w K mg base CX0 3 f_check_length fd_check_length ["length", "most"] (spP K T p_check_length)) {f_check_lands : Addr} {fd_check_lands : FuncData} (D_check_lands : Dk K mg "check_lands" st_check_lands ["length", "lands"] f_check_lands fd_check_lands) (G_check_lands : FnOk P w K mg base CX0 3 f_check_lands fd_check_lands ["length", "lands"] (spP K T p_check_lands)) : FnOk P w K mg base CX0 4 f fd ["arms", "length", "lands"] (spP K T p_check_great_island) :=
  fn_pure D.fn sc_check_great_island g_check_great_island (by decide) fun cdv A outer s H E H0 F0 io hr => (ess_cons (es_exp (eo_call (fun h => pe_call G_check_arms (hr.mono (by decide)) (by rfl) D_check_arms.mg D_check_arms.kp D_check_arms.b .nil pass0 h) (ea_cons (eo_v 0 (pv 0)) (ea_cons (eo_gint (by rfl) B.c_GREAT_ARMS.choose_spec) ea_nil)) fun _ => .nil)) (ess_cons (es_exp (eo_call (fun h => pe_call G_check_length (hr.mono (by decide)) (by rfl) D_check_length.mg D_check_length.kp D_check_length.b .nil pass0 h) (ea_cons (eo_v 1 (pv 1)) (ea_cons (eo_gint (by rfl) B.c_GREAT_LENGTH.choose_spec) ea_nil)) fun _ => .nil)) (ess_cons (es_exp (eo_call (fun h => pe_call G_check_lands (hr.mono (by decide)) (by rfl) D_check_lands.mg D_check_lands.fn.kp D_check_lands.b .nil pass0 h) (ea_cons (eo_v 1 (pv 1)) (ea_cons (eo_v 2 (pv 2)) ea_nil)) fun _ => .nil)) ess_nil)))
/-! ### order_choices -/
abbrev st_order_choices : Stmt := topS 20
theorem sc_order_choices : FnScope ["arms", "lands", "used"] ["arms", "lands"] (defScope st_order_choices) := ⟨rfl, rfl, rfl, by decide +kernel, rfl, by decide +kernel, by decide +kernel⟩
def c1_order_choices : SI := sComp (sRg2 (sCons (sC (.int 1)) (sCons (s2 fSub (sV 0) (sC (.int 1))) sNil))) (gN 2) tYes' (s2 fMul (sN fComb (sCons (sV 0) (sCons (sV 2) sNil))) (sN fComb (sCons (s2 fSub (sV 1) (sC (.int 2))) (sCons (s2 fSub (sV 2) (sC (.int 1))) sNil)))) [2]
def g_order_choices : SS := (sSeq (sRet (sN fSum (sCons (sFr c1_order_choices) sNil))) sNx)
def p_order_choices : List PyData → Option PyData := fun ds => if ds.length = 2 then bodyP g_order_choices 3 ds else none
theorem ok_order_choices {f : Addr} {fd : FuncData} (D : Dk K mg "order_choices" st_order_choices ["arms", "lands"] f fd) (B : Bt mg) : FnOk P w K mg base CX0 1 f fd ["arms", "lands"] (spP K T p_order_choices) :=
  fn_pure D.fn sc_order_choices g_order_choices (by decide) fun cdv A outer s H E H0 F0 io hr => (ess_cons (es_ret (eo_bn (fun h => pe_callB (cr_sum (by rfl)) (by rfl) B.n_sum (by decide +kernel) h) ln_sum (ea_cons (eo_fr (ef_comp (own := [("used", 2)]) (fun wi hg ht he => pe_lc (own := [("used", 2)]) rfl sc_order_choices.nd wi (blkOk_by (N := ["arms", "lands", "used"]) (sc := defScope st_order_choices) (by decide +kernel)) hg ht he) (ei_rg2 (fun h => pi_range2 (by rfl) B.n_range h) (ea_cons eo_int (ea_cons (eo_op op_sub l2_sub (eo_v 0 (pv 0)) eo_int) ea_nil))) (by decide) (fun H0 F0 io s1 H1 C1 cl1 fp1 => (eg_n 2 (pg_name (i := 2) sc_order_choices.nd rfl (Or.inl rfl)))) (fun H0 F0 io s1 H1 C1 cl1 fp1 => ets_nil) (fun H0 F0 io s1 H1 C1 cl1 fp1 => (eo_op op_mulB l2_mul (eo_bn (fun h => pe_callBfun cr_comb (by rfl) B.m_comb h) ln_comb (ea_cons (eo_v 0 (pv 0)) (ea_cons (eo_v 2 (pv 2)) ea_nil))) (eo_bn (fun h => pe_callBfun cr_comb (by rfl) B.m_comb h) ln_comb (ea_cons (eo_op op_sub l2_sub (eo_v 1 (pv 1)) eo_int) (ea_cons (eo_op op_sub l2_sub (eo_v 2 (pv 2)) eo_int) ea_nil))))))) ea_nil))) ess_nil)
/-! ### count_classes -/
abbrev st_count_classes : Stmt := topS 19
theorem sc_count_classes : FnScope ["arms", "lands"] ["arms", "lands"] (defScope st_count_classes) := ⟨rfl, rfl, rfl, by decide +kernel, rfl, by decide +kernel, by decide +kernel⟩
def g_count_classes : SS := (sSeq (sRet (sTup (sCons (sN fPerm (sCons (sV 1) (sCons (sV 0) sNil))) (sCons (s2 fMul (sCall p_order_choices [] (sCons (sV 0) (sCons (sV 1) sNil))) (sN fFac (sCons (sV 1) sNil))) sNil)))) sNx)
def p_count_classes : List PyData → Option PyData := fun ds => if ds.length = 2 then bodyP g_count_classes 2 ds else none
theorem ok_count_classes {f : Addr} {fd : FuncData} (D : Dk K mg "count_classes" st_count_classes ["arms", "lands"] f fd) (B : Bt mg) {f_order_choices : Addr} {fd_order_choices : FuncData} (D_order_choices : Dk K mg "order_choices" st_order_choices ["arms", "lands"] f_order_choices fd_order_choices) (G_order_choices : FnOk P w K mg base CX0 1 f_order_choices fd_order_choices ["arms", "lands"] (spP K T p_order_choices)) : FnOk P w K mg base CX0 2 f fd ["arms", "lands"] (spP K T p_count_classes) :=
  fn_pure D.fn sc_count_classes g_count_classes (by decide) fun cdv A outer s H E H0 F0 io hr => (ess_cons (es_ret (eo_tup (ea_cons (eo_bn (fun h => pe_callBfun cr_perm (by rfl) B.m_perm h) ln_perm (ea_cons (eo_v 1 (pv 1)) (ea_cons (eo_v 0 (pv 0)) ea_nil))) (ea_cons (eo_op op_mulB l2_mul (eo_call (fun h => pe_call G_order_choices (hr.mono (by decide)) (by rfl) D_order_choices.mg D_order_choices.fn.kp D_order_choices.b .nil pass0 h) (ea_cons (eo_v 0 (pv 0)) (ea_cons (eo_v 1 (pv 1)) ea_nil)) fun _ => .nil) (eo_bn (fun h => pe_callBfun cr_fac (by rfl) B.m_factorial h) ln_fac (ea_cons (eo_v 1 (pv 1)) ea_nil))) ea_nil)))) ess_nil)
/-! ### great_classes -/
abbrev st_great_classes : Stmt := topS 31
theorem sc_great_classes : FnScope ["arms", "length", "lands"] ["arms", "length", "lands"] (defScope st_great_classes) := ⟨rfl, rfl, rfl, by decide +kernel, rfl, by decide +kernel, by decide +kernel⟩
def g_great_classes : SS := (sSeq (sExp (sCall p_check_great_island [] (sCons (sV 0) (sCons (sV 1) (sCons (sV 2) sNil))))) (sSeq (sRet (sCall p_count_classes [] (sCons (sV 0) (sCons (sV 2) sNil)))) sNx))
def p_great_classes : List PyData → Option PyData := fun ds => if ds.length = 3 then bodyP g_great_classes 3 ds else none
theorem ok_great_classes {f : Addr} {fd : FuncData} (D : Dk K mg "great_classes" st_great_classes ["arms", "length", "lands"] f fd) (B : Bt mg) {f_check_great_island : Addr} {fd_check_great_island : FuncData} (D_check_great_island : Dk K mg "check_great_island" st_check_great_island ["arms", "length", "lands"] f_check_great_island fd_check_great_island) (G_check_great_island : FnOk P w K mg base CX0 4 f_check_great_island fd_check_great_island ["arms", "length", "lands"] (spP K T p_check_great_island)) {f_count_classes : Addr} {fd_count_classes : FuncData} (D_count_classes : Dk K mg "count_classes" st_count_classes ["arms", "lands"] f_count_classes fd_count_classes) (G_count_classes : FnOk P w K mg base CX0 2 f_count_classes fd_count_classes ["arms", "lands"] (spP K T p_count_classes)) : FnOk P w K mg base CX0 5 f fd ["arms", "length", "lands"] (spP K T p_great_classes) :=
  fn_pure D.fn sc_great_classes g_great_classes (by decide) fun cdv A outer s H E H0 F0 io hr => (ess_cons (es_exp (eo_call (fun h => pe_call G_check_great_island (hr.mono (by decide)) (by rfl) D_check_great_island.mg D_check_great_island.fn.kp D_check_great_island.b .nil pass0 h) (ea_cons (eo_v 0 (pv 0)) (ea_cons (eo_v 1 (pv 1)) (ea_cons (eo_v 2 (pv 2)) ea_nil))) fun _ => .nil)) (ess_cons (es_ret (eo_call (fun h => pe_call G_count_classes (hr.mono (by decide)) (by rfl) D_count_classes.mg D_count_classes.fn.kp D_count_classes.b .nil pass0 h) (ea_cons (eo_v 0 (pv 0)) (ea_cons (eo_v 2 (pv 2)) ea_nil)) fun _ => .nil)) ess_nil))
/-! ### border_choices -/
abbrev st_border_choices : Stmt := topS 24
theorem sc_border_choices : FnScope ["arms", "length", "many", "total", "bare", "choices"] ["arms", "length", "many"] (defScope st_border_choices) := ⟨rfl, rfl, rfl, by decide +kernel, rfl, by decide +kernel, by decide +kernel⟩
def b1_border_choices : SS := (sSeq (sAsg (s2 fMul (sN fComb (sCons (sV 0) (sCons (sV 4) sNil))) (sN fComb (sCons (s2 fMul (s2 fSub (sV 0) (sV 4)) (sV 1)) (sCons (sV 2) sNil)))) (gN 5)) (sSeq (sAug 3 (fun a b => a + b) (sIf (sTr (s2 fMod (sV 4) (sC (.int 2)))) (sNeg (sV 5)) (sV 5))) sNx))
def l1_border_choices : SS := sFor (gN 4) (sRg1 (sCons (s2 fAdd (sV 0) (sC (.int 1))) sNil)) b1_border_choices
def g_border_choices : SS := (sSeq (sAsg (sC (.int 0)) (gN 3)) (sSeq l1_border_choices (sSeq (sRet (sV 3)) sNx)))
def p_border_choices : List PyData → Option PyData := fun ds => if ds.length = 3 then bodyP g_border_choices 6 ds else none
theorem ok_border_choices {f : Addr} {fd : FuncData} (D : Dk K mg "border_choices" st_border_choices ["arms", "length", "many"] f fd) (B : Bt mg) : FnOk P w K mg base CX0 1 f fd ["arms", "length", "many"] (spP K T p_border_choices) :=
  fn_pure D.fn sc_border_choices g_border_choices (by decide) fun cdv A outer s H E H0 F0 io hr => (ess_cons (es_asg (fun h hg => ps_asg h hg) eo_int (eg_n 3 (pg_name (i := 3) sc_border_choices.nd rfl (Or.inl rfl)))) (ess_cons (es_for (fun wi hg hb => ps_for PassesOwn.never rfl wi hg hb) (ei_rg1 (fun h => pi_range1 (by rfl) B.n_range h) (ea_cons (eo_op op_add3 l2_add3 (eo_v 0 (pv 0)) eo_int) ea_nil)) (eg_n 4 (pg_name (i := 4) sc_border_choices.nd rfl (Or.inl rfl))) (ess_cons (es_asg (fun h hg => ps_asg h hg) (eo_op op_mulB l2_mul (eo_bn (fun h => pe_callBfun cr_comb (by rfl) B.m_comb h) ln_comb (ea_cons (eo_v 0 (pv 0)) (ea_cons (eo_v 4 (pv 4)) ea_nil))) (eo_bn (fun h => pe_callBfun cr_comb (by rfl) B.m_comb h) ln_comb (ea_cons (eo_op op_mulB l2_mul (eo_op op_sub l2_sub (eo_v 0 (pv 0)) (eo_v 4 (pv 4))) (eo_v 1 (pv 1))) (ea_cons (eo_v 2 (pv 2)) ea_nil)))) (eg_n 5 (pg_name (i := 5) sc_border_choices.nd rfl (Or.inl rfl)))) (ess_cons (es_aug (fun h => ps_aug (i := 3) sc_border_choices.nd rfl (Or.inl rfl) h iop_add) (eo_if (et_tr (eo_op op_mod l2_mod (eo_v 4 (pv 4)) eo_int)) (eo_negE (eo_v 5 (pv 5))) (eo_v 5 (pv 5)))) ess_nil))) (ess_cons (es_ret (eo_v 3 (pv 3))) ess_nil)))
/-! ### warm_choices -/
abbrev st_warm_choices : Stmt := topS 23
theorem sc_warm_choices : FnScope ["arms", "length", "many"] ["arms", "length", "many"] (defScope st_warm_choices) := ⟨rfl, rfl, rfl, by decide +kernel, rfl, by decide +kernel, by decide +kernel⟩
def g_warm_choices : SS := (sSeq (sRet (s2 fAdd (sCall p_border_choices [] (sCons (sV 0) (sCons (sV 1) (sCons (sV 2) sNil)))) (s2 fMul (sV 0) (sCall p_border_choices [] (sCons (s2 fSub (sV 0) (sC (.int 1))) (sCons (sV 1) (sCons (sV 2) sNil))))))) sNx)
def p_warm_choices : List PyData → Option PyData := fun ds => if ds.length = 3 then bodyP g_warm_choices 3 ds else none
theorem ok_warm_choices {f : Addr} {fd : FuncData} (D : Dk K mg "warm_choices" st_warm_choices ["arms", "length", "many"] f fd) (B : Bt mg) {f_border_choices : Addr} {fd_border_choices : FuncData} (D_border_choices : Dk K mg "border_choices" st_border_choices ["arms", "length", "many"] f_border_choices fd_border_choices) (G_border_choices : FnOk P w K mg base CX0 1 f_border_choices fd_border_choices ["arms", "length", "many"] (spP K T p_border_choices)) : FnOk P w K mg base CX0 2 f fd ["arms", "length", "many"] (spP K T p_warm_choices) :=
  fn_pure D.fn sc_warm_choices g_warm_choices (by decide) fun cdv A outer s H E H0 F0 io hr => (ess_cons (es_ret (eo_op op_add3 l2_add3 (eo_call (fun h => pe_call G_border_choices (hr.mono (by decide)) (by rfl) D_border_choices.mg D_border_choices.fn.kp D_border_choices.b .nil pass0 h) (ea_cons (eo_v 0 (pv 0)) (ea_cons (eo_v 1 (pv 1)) (ea_cons (eo_v 2 (pv 2)) ea_nil))) fun _ => .nil) (eo_op op_mulB l2_mul (eo_v 0 (pv 0)) (eo_call (fun h => pe_call G_border_choices (hr.mono (by decide)) (by rfl) D_border_choices.mg D_border_choices.fn.kp D_border_choices.b .nil pass0 h) (ea_cons (eo_op op_sub l2_sub (eo_v 0 (pv 0)) eo_int) (ea_cons (eo_v 1 (pv 1)) (ea_cons (eo_v 2 (pv 2)) ea_nil))) fun _ => .nil)))) ess_nil)
/-! ### count_class -/
abbrev st_count_class : Stmt := topS 22
theorem sc_count_class : FnScope ["arms", "length", "lands"] ["arms", "length", "lands"] (defScope st_count_class) := ⟨rfl, rfl, rfl, by decide +kernel, rfl, by decide +kernel, by decide +kernel⟩
def g_count_class : SS := (sSeq (sIfS (toT (s2 fLt (sV 2) (sV 0))) (sSeq (sRet (sC (.int 0))) sNx) sNx) (sSeq (sRet (s2 fMul (sCall p_warm_choices [] (sCons (sV 0) (sCons (sV 1) (sCons (s2 fSub (sV 2) (sC (.int 1))) sNil)))) (sN fFac (sCons (s2 fSub (sV 2) (sV 0)) sNil)))) sNx))
def p_count_class : List PyData → Option PyData := fun ds => if ds.length = 3 then bodyP g_count_class 3 ds else none
theorem ok_count_class {f : Addr} {fd : FuncData} (D : Dk K mg "count_class" st_count_class ["arms", "length", "lands"] f fd) (B : Bt mg) {f_warm_choices : Addr} {fd_warm_choices : FuncData} (D_warm_choices : Dk K mg "warm_choices" st_warm_choices ["arms", "length", "many"] f_warm_choices fd_warm_choices) (G_warm_choices : FnOk P w K mg base CX0 2 f_warm_choices fd_warm_choices ["arms", "length", "many"] (spP K T p_warm_choices)) : FnOk P w K mg base CX0 3 f fd ["arms", "length", "lands"] (spP K T p_count_class) :=
  fn_pure D.fn sc_count_class g_count_class (by decide) fun cdv A outer s H E H0 F0 io hr => (ess_cons (es_if (et_cmp op_lt l2_lt (eo_v 2 (pv 2)) (eo_v 0 (pv 0)) (nomark _)) (ess_cons (es_ret eo_int) ess_nil) ess_nil) (ess_cons (es_ret (eo_op op_mulB l2_mul (eo_call (fun h => pe_call G_warm_choices (hr.mono (by decide)) (by rfl) D_warm_choices.mg D_warm_choices.fn.kp D_warm_choices.b .nil pass0 h) (ea_cons (eo_v 0 (pv 0)) (ea_cons (eo_v 1 (pv 1)) (ea_cons (eo_op op_sub l2_sub (eo_v 2 (pv 2)) eo_int) ea_nil))) fun _ => .nil) (eo_bn (fun h => pe_callBfun cr_fac (by rfl) B.m_factorial h) ln_fac (ea_cons (eo_op op_sub l2_sub (eo_v 2 (pv 2)) (eo_v 0 (pv 0))) ea_nil)))) ess_nil))
/-! ### count_maps -/
abbrev st_count_maps : Stmt := topS 18
theorem sc_count_maps : FnScope ["arms", "length", "lands"] ["arms", "length", "lands"] (defScope st_count_maps) := ⟨rfl, rfl, rfl, by decide +kernel, rfl, by decide +kernel, by decide +kernel⟩
def g_count_maps : SS := (sSeq (sRet (s2 fMul (sN fComb (sCons (s2 fMul (sV 0) (sV 1)) (sCons (s2 fSub (sV 2) (sC (.int 1))) sNil))) (sN fFac (sCons (sV 2) sNil)))) sNx)
def p_count_maps : List PyData → Option PyData := fun ds => if ds.length = 3 then bodyP g_count_maps 3 ds else none
theorem ok_count_maps {f : Addr} {fd : FuncData} (D : Dk K mg "count_maps" st_count_maps ["arms", "length", "lands"] f fd) (B : Bt mg) : FnOk P w K mg base CX0 1 f fd ["arms", "length", "lands"] (spP K T p_count_maps) :=
  fn_pure D.fn sc_count_maps g_count_maps (by decide) fun cdv A outer s H E H0 F0 io hr => (ess_cons (es_ret (eo_op op_mulB l2_mul (eo_bn (fun h => pe_callBfun cr_comb (by rfl) B.m_comb h) ln_comb (ea_cons (eo_op op_mulB l2_mul (eo_v 0 (pv 0)) (eo_v 1 (pv 1))) (ea_cons (eo_op op_sub l2_sub (eo_v 2 (pv 2)) eo_int) ea_nil))) (eo_bn (fun h => pe_callBfun cr_fac (by rfl) B.m_factorial h) ln_fac (ea_cons (eo_v 2 (pv 2)) ea_nil)))) ess_nil)
/-! ### ratio -/
abbrev st_ratio : Stmt := topS 26
theorem sc_ratio : FnScope ["top", "bottom", "common"] ["top", "bottom"] (defScope st_ratio) := ⟨rfl, rfl, rfl, by decide +kernel, rfl, by decide +kernel, by decide +kernel⟩
def g_ratio : SS := (sSeq (sAsg (sN fGcd (sCons (sV 0) (sCons (sV 1) sNil))) (gN 2)) (sSeq (sRet (sTup (sCons (s2 fDiv (sV 0) (sV 2)) (sCons (s2 fDiv (sV 1) (sV 2)) sNil)))) sNx))
def p_ratio : List PyData → Option PyData := fun ds => if ds.length = 2 then bodyP g_ratio 3 ds else none
theorem ok_ratio {f : Addr} {fd : FuncData} (D : Dk K mg "ratio" st_ratio ["top", "bottom"] f fd) (B : Bt mg) : FnOk P w K mg base CX0 1 f fd ["top", "bottom"] (spP K T p_ratio) :=
  fn_pure D.fn sc_ratio g_ratio (by decide) fun cdv A outer s H E H0 F0 io hr => (ess_cons (es_asg (fun h hg => ps_asg h hg) (eo_bn (fun h => pe_callBfun cr_gcd (by rfl) B.m_gcd h) ln_gcd (ea_cons (eo_v 0 (pv 0)) (ea_cons (eo_v 1 (pv 1)) ea_nil))) (eg_n 2 (pg_name (i := 2) sc_ratio.nd rfl (Or.inl rfl)))) (ess_cons (es_ret (eo_tup (ea_cons (eo_op op_fdivB l2_div (eo_v 0 (pv 0)) (eo_v 2 (pv 2))) (ea_cons (eo_op op_fdivB l2_div (eo_v 1 (pv 1)) (eo_v 2 (pv 2))) ea_nil)))) ess_nil))
/-! ### with_one_arm_more -/
abbrev st_with_one_arm_more : Stmt := topS 35
theorem sc_with_one_arm_more : FnScope ["length", "ways", "longer", "many", "on_arm", "more"] ["length", "ways"] (defScope st_with_one_arm_more) := ⟨rfl, rfl, rfl, by decide +kernel, rfl, by decide +kernel, by decide +kernel⟩
def c1_with_one_arm_more : SI := sComp (sRg2 (sCons (sC (.int 1)) (sCons (s2 fAdd (sV 3) (sC (.int 1))) sNil))) (gN 5) tYes' (s2 fMul (s2 fMul (sN fComb (sCons (sV 0) (sCons (sV 5) sNil))) (sN fComb (sCons (sV 0) (sCons (sV 5) sNil)))) (s2 fIx (sV 1) (s2 fSub (sV 3) (sV 5)))) [5]
def b1_with_one_arm_more : SS := (sSeq (sAsg (sFr c1_with_one_arm_more) (gN 4)) (sSeq (sApp 2 (sN fSum (sCons (sV 4) sNil))) sNx))
def l1_with_one_arm_more : SS := sFor (gN 3) (sRg1 (sCons (sN fLen (sCons (sV 1) sNil)) sNil)) b1_with_one_arm_more
def g_with_one_arm_more : SS := (sSeq (sOwn 2 (sLst sNil)) (sSeq l1_with_one_arm_more (sSeq (sRet (sV 2)) sNx)))
def p_with_one_arm_more : List PyData → Option PyData := fun ds => if ds.length = 2 then bodyP g_with_one_arm_more 6 ds else none
theorem ok_with_one_arm_more {f : Addr} {fd : FuncData} (D : Dk K mg "with_one_arm_more" st_with_one_arm_more ["length", "ways"] f fd) (B : Bt mg) : FnOk P w K mg base CX0 1 f fd ["length", "ways"] (spP K T p_with_one_arm_more) :=
  fn_pure D.fn sc_with_one_arm_more g_with_one_arm_more (by decide) fun cdv A outer s H E H0 F0 io hr => (ess_cons (es_own 2 (fun h => ps_set (i := 2) sc_with_one_arm_more.nd rfl (Or.inl rfl) h) (ef_lst ea_nil)) (ess_cons (es_for (fun wi hg hb => ps_for PassesOwn.never rfl wi hg hb) (ei_rg1 (fun h => pi_range1 (by rfl) B.n_range h) (ea_cons (eo_bn (fun h => pe_callB call_len_seq (by rfl) B.n_len PySem.boot_len h) ln_len (ea_cons (eo_v 1 (pv 1)) ea_nil)) ea_nil)) (eg_n 3 (pg_name (i := 3) sc_with_one_arm_more.nd rfl (Or.inr rfl))) (ess_cons (es_lc frS (i := 4) (own := [("more", 5)]) (fun wi hg ht he => ps_setLc (i := 4) (own := [("more", 5)]) rfl sc_with_one_arm_more.nd rfl rfl (sw_true rfl rfl rfl (by decide +kernel)) wi (blkOk_by (N := ["length", "ways", "longer", "many", "on_arm", "more"]) (sc := defScope st_with_one_arm_more) (by decide +kernel)) hg ht he) (ei_rg2 (fun h => pi_range2 (by rfl) B.n_range h) (ea_cons eo_int (ea_cons (eo_op op_add3 l2_add3 (eo_v 3 (pv 3)) eo_int) ea_nil))) (by decide) (fun H0 F0 io s1 H1 C1 cl1 fp1 => (eg_n 5 (pg_name (i := 5) sc_with_one_arm_more.nd rfl (Or.inl rfl)))) (fun H0 F0 io s1 H1 C1 cl1 fp1 => ets_nil) (fun H0 F0 io s1 H1 C1 cl1 fp1 => (eo_op op_mulB l2_mul (eo_op op_mulB l2_mul (eo_bn (fun h => pe_callBfun cr_comb (by rfl) B.m_comb h) ln_comb (ea_cons (eo_v 0 (pv 0)) (ea_cons (eo_v 5 (pv 5)) ea_nil))) (eo_bn (fun h => pe_callBfun cr_comb (by rfl) B.m_comb h) ln_comb (ea_cons (eo_v 0 (pv 0)) (ea_cons (eo_v 5 (pv 5)) ea_nil)))) (eo_ix ix_seq l2_ix (eo_v 1 (pv 1)) (eo_op op_sub l2_sub (eo_v 3 (pv 3)) (eo_v 5 (pv 5))) (fun _ _ => rfl))))) (ess_cons (es_app 2 rfl (fun h => ps_expr (pe_bm PySem.F.plainAttrs_list PySem.F.slot_list_append PySem.F.type_list_append mt_append (pv 2) (pa_cons h pa_nil))) (eo_bn (fun h => pe_callB (cr_sum (by rfl)) (by rfl) B.n_sum (by decide +kernel) h) ln_sum (ea_cons (eo_v 4 (pv 4)) ea_nil))) ess_nil))) (ess_cons (es_ret (eo_v 2 (pv 2))) ess_nil)))
/-! ### frozen_pairs -/
abbrev st_frozen_pairs : Stmt := topS 34
theorem sc_frozen_pairs : FnScope ["arms", "length", "lands", "pairs", "ways", "used"] ["arms", "length", "lands"] (defScope st_frozen_pairs) := ⟨rfl, rfl, rfl, by decide +kernel, rfl, by decide +kernel, by decide +kernel⟩
def b1_frozen_pairs : SS := (sSeq (sAsg (sCall p_with_one_arm_more [] (sCons (sV 1) (sCons (sV 4) sNil))) (gN 4)) (sSeq (sAug 3 (fun a b => a + b) (s2 fMul (sN fComb (sCons (sV 0) (sCons (sV 5) sNil))) (s2 fIx (sV 4) (s2 fSub (sV 2) (sC (.int 1)))))) sNx))
def l1_frozen_pairs : SS := sFor (gN 5) (sRg2 (sCons (sC (.int 1)) (sCons (s2 fSub (sV 0) (sC (.int 1))) sNil))) b1_frozen_pairs
def g_frozen_pairs : SS := (sSeq (sAsg (sC (.int 0)) (gN 3)) (sSeq (sAsg (s2 fAdd (sFr (sLst (sCons (sC (.int 1)) sNil))) (sFr (sRep (sLst (sCons (sC (.int 0)) sNil)) (s2 fSub (sV 2) (sC (.int 1)))))) (gN 4)) (sSeq l1_frozen_pairs (sSeq (sRet (s2 fMul (sV 3) (sN fFac (sCons (sV 2) sNil)))) sNx))))
def p_frozen_pairs : List PyData → Option PyData := fun ds => if ds.length = 3 then bodyP g_frozen_pairs 6 ds else none
theorem ok_frozen_pairs {f : Addr} {fd : FuncData} (D : Dk K mg "frozen_pairs" st_frozen_pairs ["arms", "length", "lands"] f fd) (B : Bt mg) {f_with_one_arm_more : Addr} {fd_with_one_arm_more : FuncData} (D_with_one_arm_more : Dk K mg "with_one_arm_more" st_with_one_arm_more ["length", "ways"] f_with_one_arm_more fd_with_one_arm_more) (G_with_one_arm_more : FnOk P w K mg base CX0 1 f_with_one_arm_more fd_with_one_arm_more ["length", "ways"] (spP K T p_with_one_arm_more)) : FnOk P w K mg base CX0 2 f fd ["arms", "length", "lands"] (spP K T p_frozen_pairs) :=
  fn_pure D.fn sc_frozen_pairs g_frozen_pairs (by decide) fun cdv A outer s H E H0 F0 io hr => (ess_cons (es_asg (fun h hg => ps_asg h hg) eo_int (eg_n 3 (pg_name (i := 3) sc_frozen_pairs.nd rfl (Or.inl rfl)))) (ess_cons (es_asg (fun h hg => ps_asg h hg) (eo_op op_add3 l2_add3 (eo_fr (ef_lst (ea_cons eo_int ea_nil))) (eo_fr (ef_rep (ef_lst (ea_cons eo_int ea_nil)) fun H0 F0 io => (eo_op op_sub l2_sub (eo_v 2 (pv 2)) eo_int)))) (eg_n 4 (pg_name (i := 4) sc_frozen_pairs.nd rfl (Or.inl rfl)))) (ess_cons (es_for (fun wi hg hb => ps_for PassesOwn.never rfl wi hg hb) (ei_rg2 (fun h => pi_range2 (by rfl) B.n_range h) (ea_cons eo_int (ea_cons (eo_op op_sub l2_sub (eo_v 0 (pv 0)) eo_int) ea_nil))) (eg_n 5 (pg_name (i := 5) sc_frozen_pairs.nd rfl (Or.inl rfl))) (ess_cons (es_asg (fun h hg => ps_asg h hg) (eo_call (fun h => pe_call G_with_one_arm_more (hr.mono (by decide)) (by rfl) D_with_one_arm_more.mg D_with_one_arm_more.fn.kp D_with_one_arm_more.b .nil pass0 h) (ea_cons (eo_v 1 (pv 1)) (ea_cons (eo_v 4 (pv 4)) ea_nil)) fun _ => .nil) (eg_n 4 (pg_name (i := 4) sc_frozen_pairs.nd rfl (Or.inl rfl)))) (ess_cons (es_aug (fun h => ps_aug (i := 3) sc_frozen_pairs.nd rfl (Or.inl rfl) h iop_add) (eo_op op_mulB l2_mul (eo_bn (fun h => pe_callBfun cr_comb (by rfl) B.m_comb h) ln_comb (ea_cons (eo_v 0 (pv 0)) (ea_cons (eo_v 5 (pv 5)) ea_nil))) (eo_ix ix_seq l2_ix (eo_v 4 (pv 4)) (eo_op op_sub l2_sub (eo_v 2 (pv 2)) eo_int) (fun _ _ => rfl)))) ess_nil))) (ess_cons (es_ret (eo_op op_mulB l2_mul (eo_v 3 (pv 3)) (eo_bn (fun h => pe_callBfun cr_fac (by rfl) B.m_factorial h) ln_fac (ea_cons (eo_v 2 (pv 2)) ea_nil)))) ess_nil))))
/-! ### same_chance -/
abbrev st_same_chance : Stmt := topS 33
theorem sc_same_chance : FnScope ["arms", "length", "lands", "warm", "_", "size", "pairs", "total"] ["arms", "length", "lands"] (defScope st_same_chance) := ⟨rfl, rfl, rfl, by decide +kernel, rfl, by decide +kernel, by decide +kernel⟩
def g_same_chance : SS := (sSeq (sExp (sCall p_check_great_island [] (sCons (sV 0) (sCons (sV 1) (sCons (sV 2) sNil))))) (sSeq (sAsg (sCall p_count_classes [] (sCons (sV 0) (sCons (sV 2) sNil))) (gT (gsCons (gN 3) (gsCons (gN 4) gsNil)) 2)) (sSeq (sAsg (sCall p_count_class [] (sCons (sV 0) (sCons (sV 1) (sCons (sV 2) sNil)))) (gN 5)) (sSeq (sAsg (s2 fAdd (s2 fMul (s2 fMul (sV 3) (sV 5)) (sV 5)) (sCall p_frozen_pairs [] (sCons (sV 0) (sCons (sV 1) (sCons (sV 2) sNil))))) (gN 6)) (sSeq (sAsg (sCall p_count_maps [] (sCons (sV 0) (sCons (sV 1) (sCons (sV 2) sNil)))) (gN 7)) (sSeq (sRet (sCall p_ratio [] (sCons (sV 6) (sCons (s2 fMul (sV 7) (sV 7)) sNil)))) sNx))))))
def p_same_chance : List PyData → Option PyData := fun ds => if ds.length = 3 then bodyP g_same_chance 8 ds else none
theorem ok_same_chance {f : Addr} {fd : FuncData} (D : Dk K mg "same_chance" st_same_chance ["arms", "length", "lands"] f fd) (B : Bt mg) {f_check_great_island : Addr} {fd_check_great_island : FuncData} (D_check_great_island : Dk K mg "check_great_island" st_check_great_island ["arms", "length", "lands"] f_check_great_island fd_check_great_island) (G_check_great_island : FnOk P w K mg base CX0 4 f_check_great_island fd_check_great_island ["arms", "length", "lands"] (spP K T p_check_great_island)) {f_count_classes : Addr} {fd_count_classes : FuncData} (D_count_classes : Dk K mg "count_classes" st_count_classes ["arms", "lands"] f_count_classes fd_count_classes) (G_count_classes : FnOk P w K mg base CX0 2 f_count_classes fd_count_classes ["arms", "lands"] (spP K T p_count_classes)) {f_count_class : Addr} {fd_count_class : FuncData} (D_count_class : Dk K mg "count_class" st_count_class ["arms", "length", "lands"] f_count_class fd_count_class) (G_count_class : FnOk P w K mg base CX0 3 f_count_class fd_count_class ["arms", "length", "lands"] (spP K T p_count_class)) {f_frozen_pairs : Addr} {fd_frozen_pairs : FuncData} (D_frozen_pairs : Dk K mg "frozen_pairs" st_frozen_pairs ["arms", "length", "lands"] f_frozen_pairs fd_frozen_pairs) (G_frozen_pairs : FnOk P w K mg base CX0 2 f_frozen_pairs fd_frozen_pairs ["arms", "length", "lands"] (spP K T p_frozen_pairs)) {f_count_maps : Addr} {fd_count_maps : FuncData} (D_count_maps : Dk K mg "count_maps" st_count_maps ["arms", "length", "lands"] f_count_maps fd_count_maps) (G_count_maps : FnOk P w K mg base CX0 1 f_count_maps fd_count_maps ["arms", "length", "lands"] (spP K T p_count_maps)) {f_ratio : Addr} {fd_ratio : FuncData} (D_ratio : Dk K mg "ratio" st_ratio ["top", "bottom"] f_ratio fd_ratio) (G_ratio : FnOk P w K mg base CX0 1 f_ratio fd_ratio ["top", "bottom"] (spP K T p_ratio)) : FnOk P w K mg base CX0 5 f fd ["arms", "length", "lands"] (spP K T p_same_chance) :=
  fn_pure D.fn sc_same_chance g_same_chance (by decide) fun cdv A outer s H E H0 F0 io hr => (ess_cons (es_exp (eo_call (fun h => pe_call G_check_great_island (hr.mono (by decide)) (by rfl) D_check_great_island.mg D_check_great_island.fn.kp D_check_great_island.b .nil pass0 h) (ea_cons (eo_v 0 (pv 0)) (ea_cons (eo_v 1 (pv 1)) (ea_cons (eo_v 2 (pv 2)) ea_nil))) fun _ => .nil)) (ess_cons (es_asg (fun h hg => ps_asg h hg) (eo_call (fun h => pe_call G_count_classes (hr.mono (by decide)) (by rfl) D_count_classes.mg D_count_classes.fn.kp D_count_classes.b .nil pass0 h) (ea_cons (eo_v 0 (pv 0)) (ea_cons (eo_v 2 (pv 2)) ea_nil)) fun _ => .nil) (eg_t (egs_cons (eg_n 3 (pg_name (i := 3) sc_same_chance.nd rfl (Or.inl rfl))) (egs_cons (eg_n 4 (pg_name (i := 4) sc_same_chance.nd rfl (Or.inl rfl))) egs_nil (fun h h1 => pgs_cons h h1)) (fun h h1 => pgs_cons h h1)) (fun h => pg_tup (by rfl) h) rfl)) (ess_cons (es_asg (fun h hg => ps_asg h hg) (eo_call (fun h => pe_call G_count_class (hr.mono (by decide)) (by rfl) D_count_class.mg D_count_class.fn.kp D_count_class.b .nil pass0 h) (ea_cons (eo_v 0 (pv 0)) (ea_cons (eo_v 1 (pv 1)) (ea_cons (eo_v 2 (pv 2)) ea_nil))) fun _ => .nil) (eg_n 5 (pg_name (i := 5) sc_same_chance.nd rfl (Or.inl rfl)))) (ess_cons (es_asg (fun h hg => ps_asg h hg) (eo_op op_add3 l2_add3 (eo_op op_mulB l2_mul (eo_op op_mulB l2_mul (eo_v 3 (pv 3)) (eo_v 5 (pv 5))) (eo_v 5 (pv 5))) (eo_call (fun h => pe_call G_frozen_pairs (hr.mono (by decide)) (by rfl) D_frozen_pairs.mg D_frozen_pairs.fn.kp D_frozen_pairs.b .nil pass0 h) (ea_cons (eo_v 0 (pv 0)) (ea_cons (eo_v 1 (pv 1)) (ea_cons (eo_v 2 (pv 2)) ea_nil))) fun _ => .nil)) (eg_n 6 (pg_name (i := 6) sc_same_chance.nd rfl (Or.inl rfl)))) (ess_cons (es_asg (fun h hg => ps_asg h hg) (eo_call (fun h => pe_call G_count_maps (hr.mono (by decide)) (by rfl) D_count_maps.mg D_count_maps.fn.kp D_count_maps.b .nil pass0 h) (ea_cons (eo_v 0 (pv 0)) (ea_cons (eo_v 1 (pv 1)) (ea_cons (eo_v 2 (pv 2)) ea_nil))) fun _ => .nil) (eg_n 7 (pg_name (i := 7) sc_same_chance.nd rfl (Or.inl rfl)))) (ess_cons (es_ret (eo_call (fun h => pe_call G_ratio (hr.mono (by decide)) (by rfl) D_ratio.mg D_ratio.fn.kp D_ratio.b .nil pass0 h) (ea_cons (eo_v 6 (pv 6)) (ea_cons (eo_op op_mulB l2_mul (eo_v 7 (pv 7)) (eo_v 7 (pv 7))) ea_nil)) fun _ => .nil)) ess_nil))))))
/-! ### great_count -/
abbrev st_great_count : Stmt := topS 29
theorem sc_great_count : FnScope ["arms", "length", "lands"] ["arms", "length", "lands"] (defScope st_great_count) := ⟨rfl, rfl, rfl, by decide +kernel, rfl, by decide +kernel, by decide +kernel⟩
def g_great_count : SS := (sSeq (sExp (sCall p_check_great_island [] (sCons (sV 0) (sCons (sV 1) (sCons (sV 2) sNil))))) (sSeq (sRet (sCall p_count_maps [] (sCons (sV 0) (sCons (sV 1) (sCons (sV 2) sNil))))) sNx))
def p_great_count : List PyData → Option PyData := fun ds => if ds.length = 3 then bodyP g_great_count 3 ds else none
theorem ok_great_count {f : Addr} {fd : FuncData} (D : Dk K mg "great_count" st_great_count ["arms", "length", "lands"] f fd) (B : Bt mg) {f_check_great_island : Addr} {fd_check_great_island : FuncData} (D_check_great_island : Dk K mg "check_great_island" st_check_great_island ["arms", "length", "lands"] f_check_great_island fd_check_great_island) (G_check_great_island : FnOk P w K mg base CX0 4 f_check_great_island fd_check_great_island ["arms", "length", "lands"] (spP K T p_check_great_island)) {f_count_maps : Addr} {fd_count_maps : FuncData} (D_count_maps : Dk K mg "count_maps" st_count_maps ["arms", "length", "lands"] f_count_maps fd_count_maps) (G_count_maps : FnOk P w K mg base CX0 1 f_count_maps fd_count_maps ["arms", "length", "lands"] (spP K T p_count_maps)) : FnOk P w K mg base CX0 5 f fd ["arms", "length", "lands"] (spP K T p_great_count) :=
  fn_pure D.fn sc_great_count g_great_count (by decide) fun cdv A outer s H E H0 F0 io hr => (ess_cons (es_exp (eo_call (fun h => pe_call G_check_great_island (hr.mono (by decide)) (by rfl) D_check_great_island.mg D_check_great_island.fn.kp D_check_great_island.b .nil pass0 h) (ea_cons (eo_v 0 (pv 0)) (ea_cons (eo_v 1 (pv 1)) (ea_cons (eo_v 2 (pv 2)) ea_nil))) fun _ => .nil)) (ess_cons (es_ret (eo_call (fun h => pe_call G_count_maps (hr.mono (by decide)) (by rfl) D_count_maps.mg D_count_maps.fn.kp D_count_maps.b .nil pass0 h) (ea_cons (eo_v 0 (pv 0)) (ea_cons (eo_v 1 (pv 1)) (ea_cons (eo_v 2 (pv 2)) ea_nil))) fun _ => .nil)) ess_nil))
/-! ### count_frozen -/
abbrev st_count_frozen : Stmt := topS 28
theorem sc_count_frozen : FnScope ["arms", "length", "lands", "choices"] ["arms", "length", "lands"] (defScope st_count_frozen) := ⟨rfl, rfl, rfl, by decide +kernel, rfl, by decide +kernel, by decide +kernel⟩
def g_count_frozen : SS := (sSeq (sAsg (s2 fSub (sN fComb (sCons (s2 fMul (sV 0) (sV 1)) (sCons (s2 fSub (sV 2) (sC (.int 1))) sNil))) (sCall p_warm_choices [] (sCons (sV 0) (sCons (sV 1) (sCons (s2 fSub (sV 2) (sC (.int 1))) sNil))))) (gN 3)) (sSeq (sRet (s2 fMul (sV 3) (sN fFac (sCons (sV 2) sNil)))) sNx))
def p_count_frozen : List PyData → Option PyData := fun ds => if ds.length = 3 then bodyP g_count_frozen 4 ds else none
theorem ok_count_frozen {f : Addr} {fd : FuncData} (D : Dk K mg "count_frozen" st_count_frozen ["arms", "length", "lands"] f fd) (B : Bt mg) {f_warm_choices : Addr} {fd_warm_choices : FuncData} (D_warm_choices : Dk K mg "warm_choices" st_warm_choices ["arms", "length", "many"] f_warm_choices fd_warm_choices) (G_warm_choices : FnOk P w K mg base CX0 2 f_warm_choices fd_warm_choices ["arms", "length", "many"] (spP K T p_warm_choices)) : FnOk P w K mg base CX0 3 f fd ["arms", "length", "lands"] (spP K T p_count_frozen) :=
  fn_pure D.fn sc_count_frozen g_count_frozen (by decide) fun cdv A outer s H E H0 F0 io hr => (ess_cons (es_asg (fun h hg => ps_asg h hg) (eo_op op_sub l2_sub (eo_bn (fun h => pe_callBfun cr_comb (by rfl) B.m_comb h) ln_comb (ea_cons (eo_op op_mulB l2_mul (eo_v 0 (pv 0)) (eo_v 1 (pv 1))) (ea_cons (eo_op op_sub l2_sub (eo_v 2 (pv 2)) eo_int) ea_nil))) (eo_call (fun h => pe_call G_warm_choices (hr.mono (by decide)) (by rfl) D_warm_choices.mg D_warm_choices.fn.kp D_warm_choices.b .nil pass0 h) (ea_cons (eo_v 0 (pv 0)) (ea_cons (eo_v 1 (pv 1)) (ea_cons (eo_op op_sub l2_sub (eo_v 2 (pv 2)) eo_int) ea_nil))) fun _ => .nil)) (eg_n 3 (pg_name (i := 3) sc_count_frozen.nd rfl (Or.inl rfl)))) (ess_cons (es_ret (eo_op op_mulB l2_mul (eo_v 3 (pv 3)) (eo_bn (fun h => pe_callBfun cr_fac (by rfl) B.m_factorial h) ln_fac (ea_cons (eo_v 2 (pv 2)) ea_nil)))) ess_nil))
/-! ### great_frozen -/
abbrev st_great_frozen : Stmt := topS 30
theorem sc_great_frozen : FnScope ["arms", "length", "lands"] ["arms", "length", "lands"] (defScope st_great_frozen) := ⟨rfl, rfl, rfl, by decide +kernel, rfl, by decide +kernel, by decide +kernel⟩
def g_great_frozen : SS := (sSeq (sExp (sCall p_check_great_island [] (sCons (sV 0) (sCons (sV 1) (sCons (sV 2) sNil))))) (sSeq (sRet (sCall p_count_frozen [] (sCons (sV 0) (sCons (sV 1) (sCons (sV 2) sNil))))) sNx))
def p_great_frozen : List PyData → Option PyData := fun ds => if ds.length = 3 then bodyP g_great_frozen 3 ds else none
theorem ok_great_frozen {f : Addr} {fd : FuncData} (D : Dk K mg "great_frozen" st_great_frozen ["arms", "length", "lands"] f fd) (B : Bt mg) {f_check_great_island : Addr} {fd_check_great_island : FuncData} (D_check_great_island : Dk K mg "check_great_island" st_check_great_island ["arms", "length", "lands"] f_check_great_island fd_check_great_island) (G_check_great_island : FnOk P w K mg base CX0 4 f_check_great_island fd_check_great_island ["arms", "length", "lands"] (spP K T p_check_great_island)) {f_count_frozen : Addr} {fd_count_frozen : FuncData} (D_count_frozen : Dk K mg "count_frozen" st_count_frozen ["arms", "length", "lands"] f_count_frozen fd_count_frozen) (G_count_frozen : FnOk P w K mg base CX0 3 f_count_frozen fd_count_frozen ["arms", "length", "lands"] (spP K T p_count_frozen)) : FnOk P w K mg base CX0 5 f fd ["arms", "length", "lands"] (spP K T p_great_frozen) :=
  fn_pure D.fn sc_great_frozen g_great_frozen (by decide) fun cdv A outer s H E H0 F0 io hr => (ess_cons (es_exp (eo_call (fun h => pe_call G_check_great_island (hr.mono (by decide)) (by rfl) D_check_great_island.mg D_check_great_island.fn.kp D_check_great_island.b .nil pass0 h) (ea_cons (eo_v 0 (pv 0)) (ea_cons (eo_v 1 (pv 1)) (ea_cons (eo_v 2 (pv 2)) ea_nil))) fun _ => .nil)) (ess_cons (es_ret (eo_call (fun h => pe_call G_count_frozen (hr.mono (by decide)) (by rfl) D_count_frozen.mg D_count_frozen.fn.kp D_count_frozen.b .nil pass0 h) (ea_cons (eo_v 0 (pv 0)) (ea_cons (eo_v 1 (pv 1)) (ea_cons (eo_v 2 (pv 2)) ea_nil))) fun _ => .nil)) ess_nil))
/-! ### great_class -/
abbrev st_great_class : Stmt := topS 21
theorem sc_great_class : FnScope ["arms", "length", "lands"] ["arms", "length", "lands"] (defScope st_great_class) := ⟨rfl, rfl, rfl, by decide +kernel, rfl, by decide +kernel, by decide +kernel⟩
def g_great_class : SS := (sSeq (sExp (sCall p_check_great_island [] (sCons (sV 0) (sCons (sV 1) (sCons (sV 2) sNil))))) (sSeq (sRet (sCall p_count_class [] (sCons (sV 0) (sCons (sV 1) (sCons (sV 2) sNil))))) sNx))
def p_great_class : List PyData → Option PyData := fun ds => if ds.length = 3 then bodyP g_great_class 3 ds else none
theorem ok_great_class {f : Addr} {fd : FuncData} (D : Dk K mg "great_class" st_great_class ["arms", "length", "lands"] f fd) (B : Bt mg) {f_check_great_island : Addr} {fd_check_great_island : FuncData} (D_check_great_island : Dk K mg "check_great_island" st_check_great_island ["arms", "length", "lands"] f_check_great_island fd_check_great_island) (G_check_great_island : FnOk P w K mg base CX0 4 f_check_great_island fd_check_great_island ["arms", "length", "lands"] (spP K T p_check_great_island)) {f_count_class : Addr} {fd_count_class : FuncData} (D_count_class : Dk K mg "count_class" st_count_class ["arms", "length", "lands"] f_count_class fd_count_class) (G_count_class : FnOk P w K mg base CX0 3 f_count_class fd_count_class ["arms", "length", "lands"] (spP K T p_count_class)) : FnOk P w K mg base CX0 5 f fd ["arms", "length", "lands"] (spP K T p_great_class) :=
  fn_pure D.fn sc_great_class g_great_class (by decide) fun cdv A outer s H E H0 F0 io hr => (ess_cons (es_exp (eo_call (fun h => pe_call G_check_great_island (hr.mono (by decide)) (by rfl) D_check_great_island.mg D_check_great_island.fn.kp D_check_great_island.b .nil pass0 h) (ea_cons (eo_v 0 (pv 0)) (ea_cons (eo_v 1 (pv 1)) (ea_cons (eo_v 2 (pv 2)) ea_nil))) fun _ => .nil)) (ess_cons (es_ret (eo_call (fun h => pe_call G_count_class (hr.mono (by decide)) (by rfl) D_count_class.mg D_count_class.fn.kp D_count_class.b .nil pass0 h) (ea_cons (eo_v 0 (pv 0)) (ea_cons (eo_v 1 (pv 1)) (ea_cons (eo_v 2 (pv 2)) ea_nil))) fun _ => .nil)) ess_nil))
/-! ### _law_less -/
abbrev st__law_less : Stmt := topS 49
theorem sc__law_less : FnScope ["one", "other"] ["one", "other"] (defScope st__law_less) := ⟨rfl, rfl, rfl, by decide +kernel, rfl, by decide +kernel, by decide +kernel⟩
def g__law_less : SS := (sSeq (sRet (s2 fLt (s2 fMul (s2 fIx (sV 0) (sC (.int 0))) (s2 fIx (sV 1) (sC (.int 1)))) (s2 fMul (s2 fIx (sV 1) (sC (.int 0))) (s2 fIx (sV 0) (sC (.int 1)))))) sNx)
def p__law_less : List PyData → Option PyData := fun ds => if ds.length = 2 then bodyP g__law_less 2 ds else none
theorem ok__law_less {f : Addr} {fd : FuncData} (D : Dk K mg "_law_less" st__law_less ["one", "other"] f fd) (B : Bt mg) : FnOk P w K mg base CX0 1 f fd ["one", "other"] (spP K T p__law_less) :=
  fn_pure D.fn sc__law_less g__law_less (by decide) fun cdv A outer s H E H0 F0 io hr => (ess_cons (es_ret (eo_cmp op_lt l2_lt (eo_op op_mulB l2_mul (eo_ix ix_seq l2_ix (eo_v 0 (pv 0)) eo_int (fun _ _ => rfl)) (eo_ix ix_seq l2_ix (eo_v 1 (pv 1)) eo_int (fun _ _ => rfl))) (eo_op op_mulB l2_mul (eo_ix ix_seq l2_ix (eo_v 1 (pv 1)) eo_int (fun _ _ => rfl)) (eo_ix ix_seq l2_ix (eo_v 0 (pv 0)) eo_int (fun _ _ => rfl))) (nomark _))) ess_nil)
/-! ### _law_taken -/
abbrev st__law_taken : Stmt := topS 42
theorem sc__law_taken : FnScope ["row", "many", "found", "cell"] ["row", "many"] (defScope st__law_taken) := ⟨rfl, rfl, rfl, by decide +kernel, rfl, by decide +kernel, by decide +kernel⟩
def g__law_taken : SS := (sSeq (sIfS (toT (s2 fGt (s2 fIx (sB 0) (sC (.int 3))) (sC (.int 0)))) (sSeq (sAsg (s2 fMod (sN fInt (sCons (s2 fIx (sB 0) (sC (.int 3))) sNil)) (sV 1)) (gN 2)) (sSeq (sSetIx 0 (sC (.int 3)) (s2 fDiv (s2 fIx (sB 0) (sC (.int 3))) (sV 1))) (sSeq (sRet (sV 2)) sNx))) sNx) (sSeq (sSetIx 0 (sC (.int 1)) (s2 fAdd (s2 fIx (sB 0) (sC (.int 1))) (sC (.int 1)))) (sSeq (sIfS (toT (s2 fGt (s2 fIx (sB 0) (sC (.int 1))) (sN fLen (sCons (s2 fIx (sB 0) (sC (.int 0))) sNil)))) (sSeq (sSetIx 0 (sC (.int 2)) (s2 fMod (sN fInt (sCons (s2 fAdd (s2 fMul (s2 fIx (sB 0) (sC (.int 2))) (sC (.int 48271))) (sC (.int 11))) sNil)) (sC (.int 2147483647)))) (sSeq (sRet (s2 fMod (sN fInt (sCons (s2 fDiv (s2 fIx (sB 0) (sC (.int 2))) (sC (.int 7))) sNil)) (sV 1))) sNx)) sNx) (sSeq (sAsg (s2 fIx (s2 fIx (sB 0) (sC (.int 0))) (s2 fSub (s2 fIx (sB 0) (sC (.int 1))) (sC (.int 1)))) (gN 3)) (sSeq (sSetIx 0 (sC (.int 2)) (s2 fMod (sN fInt (sCons (s2 fAdd (s2 fAdd (s2 fMul (s2 fIx (sB 0) (sC (.int 2))) (sC (.int 48271))) (sV 3)) (sC (.int 11))) sNil)) (sC (.int 2147483647)))) (sSeq (sIfS (toT (s2 fGe (sV 3) (s2 fPow (sC (.int 10)) (sC (.int 18))))) (sSeq (sSetIx 0 (sC (.int 3)) (s2 fDiv (sV 3) (sV 1))) sNx) sNx) (sSeq (sRet (s2 fMod (sN fInt (sCons (sV 3) sNil)) (sV 1))) sNx)))))))
def p__law_taken : List PyData → List PyData → Option (PyData × List PyData) := fun rs ds => if ds.length + 1 = 2 then bodyI g__law_taken 4 rs ds else none
theorem ok__law_taken {f : Addr} {fd : FuncData} (D : Dk K mg "_law_taken" st__law_taken ["row", "many"] f fd) (B : Bt mg) : FnOk P w K mg base CX0 1 f fd ["row", "many"] (spI K T p__law_taken) :=
  fn_io D.fn sc__law_taken g__law_taken (by decide) fun cdv A outer s H E H0 F0 io hr => (ess_cons (es_if (et_cmp op_gt l2_gt (eo_ix ix_seq l2_ix (eo_b 0 (pv 0)) eo_int (fun _ _ => rfl)) eo_int (nomark _)) (ess_cons (es_asg (fun h hg => ps_asg h hg) (eo_op op_mod l2_mod (eo_bn (fun h => pe_callTy call_int1 (by rfl) B.n_int (by decide +kernel) h) ln_int (ea_cons (eo_ix ix_seq l2_ix (eo_b 0 (pv 0)) eo_int (fun _ _ => rfl)) ea_nil)) (eo_v 1 (pv 1))) (eg_n 2 (pg_name (i := 2) sc__law_taken.nd rfl (Or.inl rfl)))) (ess_cons (es_setIx 0 (fun h hi => ps_asg h (pg_sub (pv 0) hi set_list)) (eo_op op_fdivB l2_div (eo_ix ix_seq l2_ix (eo_b 0 (pv 0)) eo_int (fun _ _ => rfl)) (eo_v 1 (pv 1))) eo_int) (ess_cons (es_ret (eo_v 2 (pv 2))) ess_nil))) ess_nil) (ess_cons (es_setIx 0 (fun h hi => ps_asg h (pg_sub (pv 0) hi set_list)) (eo_op op_add3 l2_add3 (eo_ix ix_seq l2_ix (eo_b 0 (pv 0)) eo_int (fun _ _ => rfl)) eo_int) eo_int) (ess_cons (es_if (et_cmp op_gt l2_gt (eo_ix ix_seq l2_ix (eo_b 0 (pv 0)) eo_int (fun _ _ => rfl)) (eo_bn (fun h => pe_callB call_len_seq (by rfl) B.n_len PySem.boot_len h) ln_len (ea_cons (eo_ix ix_seq l2_ix (eo_b 0 (pv 0)) eo_int (fun _ _ => rfl)) ea_nil)) (nomark _)) (ess_cons (es_setIx 0 (fun h hi => ps_asg h (pg_sub (pv 0) hi set_list)) (eo_op op_mod l2_mod (eo_bn (fun h => pe_callTy call_int1 (by rfl) B.n_int (by decide +kernel) h) ln_int (ea_cons (eo_op op_add3 l2_add3 (eo_op op_mulB l2_mul (eo_ix ix_seq l2_ix (eo_b 0 (pv 0)) eo_int (fun _ _ => rfl)) eo_int) eo_int) ea_nil)) eo_int) eo_int) (ess_cons (es_ret (eo_op op_mod l2_mod (eo_bn (fun h => pe_callTy call_int1 (by rfl) B.n_int (by decide +kernel) h) ln_int (ea_cons (eo_op op_fdivB l2_div (eo_ix ix_seq l2_ix (eo_b 0 (pv 0)) eo_int (fun _ _ => rfl)) eo_int) ea_nil)) (eo_v 1 (pv 1)))) ess_nil)) ess_nil) (ess_cons (es_asg (fun h hg => ps_asg h hg) (eo_ix ix_seq l2_ix (eo_ix ix_seq l2_ix (eo_b 0 (pv 0)) eo_int (fun _ _ => rfl)) (eo_op op_sub l2_sub (eo_ix ix_seq l2_ix (eo_b 0 (pv 0)) eo_int (fun _ _ => rfl)) eo_int) (fun _ _ => rfl)) (eg_n 3 (pg_name (i := 3) sc__law_taken.nd rfl (Or.inl rfl)))) (ess_cons (es_setIx 0 (fun h hi => ps_asg h (pg_sub (pv 0) hi set_list)) (eo_op op_mod l2_mod (eo_bn (fun h => pe_callTy call_int1 (by rfl) B.n_int (by decide +kernel) h) ln_int (ea_cons (eo_op op_add3 l2_add3 (eo_op op_add3 l2_add3 (eo_op op_mulB l2_mul (eo_ix ix_seq l2_ix (eo_b 0 (pv 0)) eo_int (fun _ _ => rfl)) eo_int) (eo_v 3 (pv 3))) eo_int) ea_nil)) eo_int) eo_int) (ess_cons (es_if (et_cmp op_ge l2_ge (eo_v 3 (pv 3)) (eo_op op_pow l2_pow eo_int eo_int) (nomark _)) (ess_cons (es_setIx 0 (fun h hi => ps_asg h (pg_sub (pv 0) hi set_list)) (eo_op op_fdivB l2_div (eo_v 3 (pv 3)) (eo_v 1 (pv 1))) eo_int) ess_nil) ess_nil) (ess_cons (es_ret (eo_op op_mod l2_mod (eo_bn (fun h => pe_callTy call_int1 (by rfl) B.n_int (by decide +kernel) h) ln_int (ea_cons (eo_v 3 (pv 3)) ea_nil)) (eo_v 1 (pv 1)))) ess_nil)))))))
/-! ### frozen_share -/
abbrev st_frozen_share : Stmt := topS 32
theorem sc_frozen_share : FnScope ["arms", "length", "lands"] ["arms", "length", "lands"] (defScope st_frozen_share) := ⟨rfl, rfl, rfl, by decide +kernel, rfl, by decide +kernel, by decide +kernel⟩
def g_frozen_share : SS := (sSeq (sRet (sCall p_ratio [] (sCons (sCall p_great_frozen [] (sCons (sV 0) (sCons (sV 1) (sCons (sV 2) sNil)))) (sCons (sCall p_count_maps [] (sCons (sV 0) (sCons (sV 1) (sCons (sV 2) sNil)))) sNil)))) sNx)
def p_frozen_share : List PyData → Option PyData := fun ds => if ds.length = 3 then bodyP g_frozen_share 3 ds else none
theorem ok_frozen_share {f : Addr} {fd : FuncData} (D : Dk K mg "frozen_share" st_frozen_share ["arms", "length", "lands"] f fd) (B : Bt mg) {f_ratio : Addr} {fd_ratio : FuncData} (D_ratio : Dk K mg "ratio" st_ratio ["top", "bottom"] f_ratio fd_ratio) (G_ratio : FnOk P w K mg base CX0 1 f_ratio fd_ratio ["top", "bottom"] (spP K T p_ratio)) {f_great_frozen : Addr} {fd_great_frozen : FuncData} (D_great_frozen : Dk K mg "great_frozen" st_great_frozen ["arms", "length", "lands"] f_great_frozen fd_great_frozen) (G_great_frozen : FnOk P w K mg base CX0 5 f_great_frozen fd_great_frozen ["arms", "length", "lands"] (spP K T p_great_frozen)) {f_count_maps : Addr} {fd_count_maps : FuncData} (D_count_maps : Dk K mg "count_maps" st_count_maps ["arms", "length", "lands"] f_count_maps fd_count_maps) (G_count_maps : FnOk P w K mg base CX0 1 f_count_maps fd_count_maps ["arms", "length", "lands"] (spP K T p_count_maps)) : FnOk P w K mg base CX0 6 f fd ["arms", "length", "lands"] (spP K T p_frozen_share) :=
  fn_pure D.fn sc_frozen_share g_frozen_share (by decide) fun cdv A outer s H E H0 F0 io hr => (ess_cons (es_ret (eo_call (fun h => pe_call G_ratio (hr.mono (by decide)) (by rfl) D_ratio.mg D_ratio.fn.kp D_ratio.b .nil pass0 h) (ea_cons (eo_call (fun h => pe_call G_great_frozen (hr.mono (by decide)) (by rfl) D_great_frozen.mg D_great_frozen.fn.kp D_great_frozen.b .nil pass0 h) (ea_cons (eo_v 0 (pv 0)) (ea_cons (eo_v 1 (pv 1)) (ea_cons (eo_v 2 (pv 2)) ea_nil))) fun _ => .nil) (ea_cons (eo_call (fun h => pe_call G_count_maps (hr.mono (by decide)) (by rfl) D_count_maps.mg D_count_maps.fn.kp D_count_maps.b .nil pass0 h) (ea_cons (eo_v 0 (pv 0)) (ea_cons (eo_v 1 (pv 1)) (ea_cons (eo_v 2 (pv 2)) ea_nil))) fun _ => .nil) ea_nil)) fun _ => .nil)) ess_nil)
/-! ### _law_ratio -/
abbrev st__law_ratio : Stmt := topS 45
theorem sc__law_ratio : FnScope ["top", "bottom", "one", "other"] ["top", "bottom"] (defScope st__law_ratio) := ⟨rfl, rfl, rfl, by decide +kernel, rfl, by decide +kernel, by decide +kernel⟩
def b1__law_ratio : SS := (sSeq (sPar [2, 3] (sCons (sV 3) (sCons (s2 fMod (sN fInt (sCons (sV 2) sNil)) (sV 3)) sNil))) sNx)
def w1__law_ratio : SS := loopW (toT (s2 fNe (sV 3) (sC (.int 0)))) b1__law_ratio 100000
def g__law_ratio : SS := (sSeq (sPar [2, 3] (sCons (sN fAbs (sCons (sV 0) sNil)) (sCons (sN fAbs (sCons (sV 1) sNil)) sNil))) (sSeq w1__law_ratio (sSeq (sRet (sIf (toT (s2 fGt (sV 1) (sC (.int 0)))) (sTup (sCons (s2 fDiv (sV 0) (sV 2)) (sCons (s2 fDiv (sV 1) (sV 2)) sNil))) (sTup (sCons (s2 fSub (sC (.int 0)) (s2 fDiv (sV 0) (sV 2))) (sCons (s2 fSub (sC (.int 0)) (s2 fDiv (sV 1) (sV 2))) sNil))))) sNx)))
def p__law_ratio : List PyData → Option PyData := fun ds => if ds.length = 2 then bodyP g__law_ratio 4 ds else none
theorem ok__law_ratio {f : Addr} {fd : FuncData} (D : Dk K mg "_law_ratio" st__law_ratio ["top", "bottom"] f fd) (B : Bt mg) : FnOk P w K mg base CX0 1 f fd ["top", "bottom"] (spP K T p__law_ratio) :=
  fn_pure D.fn sc__law_ratio g__law_ratio (by decide) fun cdv A outer s H E H0 F0 io hr => (ess_cons (es_par (fun h => ps_par (by rfl) sc__law_ratio.nd rfl rfl (by decide) rfl rfl h (by rfl)) (ea_cons (eo_bn (fun h => pe_callB call_abs (by rfl) B.n_abs (by decide +kernel) h) ln_abs (ea_cons (eo_v 0 (pv 0)) ea_nil)) (ea_cons (eo_bn (fun h => pe_callB call_abs (by rfl) B.n_abs (by decide +kernel) h) ln_abs (ea_cons (eo_v 1 (pv 1)) ea_nil)) ea_nil))) (ess_cons (es_while (n := 100000) (fun ht hb => ps_while PassesOwn.never ht hb) (et_cmp (op_neD (hu64 hr)) l2_ne (eo_v 3 (pv 3)) eo_int (nomark _)) (ess_cons (es_par (fun h => ps_par (by rfl) sc__law_ratio.nd rfl rfl (by decide) rfl rfl h (by rfl)) (ea_cons (eo_v 3 (pv 3)) (ea_cons (eo_op op_mod l2_mod (eo_bn (fun h => pe_callTy call_int1 (by rfl) B.n_int (by decide +kernel) h) ln_int (ea_cons (eo_v 2 (pv 2)) ea_nil)) (eo_v 3 (pv 3))) ea_nil))) ess_nil)) (ess_cons (es_ret (eo_if (et_cmp op_gt l2_gt (eo_v 1 (pv 1)) eo_int (nomark _)) (eo_tup (ea_cons (eo_op op_fdivB l2_div (eo_v 0 (pv 0)) (eo_v 2 (pv 2))) (ea_cons (eo_op op_fdivB l2_div (eo_v 1 (pv 1)) (eo_v 2 (pv 2))) ea_nil))) (eo_tup (ea_cons (eo_op op_sub l2_sub eo_int (eo_op op_fdivB l2_div (eo_v 0 (pv 0)) (eo_v 2 (pv 2)))) (ea_cons (eo_op op_sub l2_sub eo_int (eo_op op_fdivB l2_div (eo_v 1 (pv 1)) (eo_v 2 (pv 2)))) ea_nil))))) ess_nil)))
/-! ### check_arms_and_lands -/
abbrev st_check_arms_and_lands : Stmt := topS 40
theorem sc_check_arms_and_lands : FnScope ["arms", "lands"] ["arms", "lands"] (defScope st_check_arms_and_lands) := ⟨rfl, rfl, rfl, by decide +kernel, rfl, by decide +kernel, by decide +kernel⟩
def g_check_arms_and_lands : SS := (sSeq (sExp (sCall p_check_arms [] (sCons (sV 0) (sCons (sC (.int (12))) sNil)))) (sSeq (sExp (sCall p_check_lands [] (sCons (s2 fSub (sC (.int (12))) (sC (.int 1))) (sCons (sV 1) sNil)))) sNx))
def p_check_arms_and_lands : List PyData → Option PyData := fun ds => if ds.length = 2 then bodyP g_check_arms_and_lands 2 ds else none
theorem ok_check_arms_and_lands {f : Addr} {fd : FuncData} (D : Dk K mg "check_arms_and_lands" st_check_arms_and_lands ["arms", "lands"] f fd) (B : Bt mg) {f_check_arms : Addr} {fd_check_arms : FuncData} (D_check_arms : Dd K mg "check_arms" st_check_arms ["arms", "most"] f_check_arms fd_check_arms [V.int (4)]) (G_check_arms : FnOk P w K mg base CX0 3 f_check_arms fd_check_arms ["arms", "most"] (spP K T p_check_arms)) {f_check_lands : Addr} {fd_check_lands : FuncData} (D_check_lands : Dk K mg "check_lands" st_check_lands ["length", "lands"] f_check_lands fd_check_lands) (G_check_lands : FnOk P w K mg base CX0 3 f_check_lands fd_check_lands ["length", "lands"] (spP K T p_check_lands)) : FnOk P w K mg base CX0 4 f fd ["arms", "lands"] (spP K T p_check_arms_and_lands) :=
  fn_pure D.fn sc_check_arms_and_lands g_check_arms_and_lands (by decide) fun cdv A outer s H E H0 F0 io hr => (ess_cons (es_exp (eo_call (fun h => pe_call G_check_arms (hr.mono (by decide)) (by rfl) D_check_arms.mg D_check_arms.kp D_check_arms.b .nil pass0 h) (ea_cons (eo_v 0 (pv 0)) (ea_cons (eo_gint (by rfl) B.c_GREAT_ARMS.choose_spec) ea_nil)) fun _ => .nil)) (ess_cons (es_exp (eo_call (fun h => pe_call G_check_lands (hr.mono (by decide)) (by rfl) D_check_lands.mg D_check_lands.fn.kp D_check_lands.b .nil pass0 h) (ea_cons (eo_op op_sub l2_sub (eo_gint (by rfl) B.c_MOST_LANDS.choose_spec) eo_int) (ea_cons (eo_v 1 (pv 1)) ea_nil)) fun _ => .nil)) ess_nil))
/-! ### all_arrangements -/
abbrev st_all_arrangements : Stmt := topS 39
theorem sc_all_arrangements : FnScope ["arms", "lands"] ["arms", "lands"] (defScope st_all_arrangements) := ⟨rfl, rfl, rfl, by decide +kernel, rfl, by decide +kernel, by decide +kernel⟩
def g_all_arrangements : SS := (sSeq (sExp (sCall p_check_arms_and_lands [] (sCons (sV 0) (sCons (sV 1) sNil)))) (sSeq (sRet (s2 fMul (sN fFac (sCons (sV 1) sNil)) (sN fComb (sCons (s2 fSub (s2 fAdd (sV 1) (sV 0)) (sC (.int 2))) (sCons (s2 fSub (sV 0) (sC (.int 1))) sNil))))) sNx))
def p_all_arrangements : List PyData → Option PyData := fun ds => if ds.length = 2 then bodyP g_all_arrangements 2 ds else none
theorem ok_all_arrangements {f : Addr} {fd : FuncData} (D : Dk K mg "all_arrangements" st_all_arrangements ["arms", "lands"] f fd) (B : Bt mg) {f_check_arms_and_lands : Addr} {fd_check_arms_and_lands : FuncData} (D_check_arms_and_lands : Dk K mg "check_arms_and_lands" st_check_arms_and_lands ["arms", "lands"] f_check_arms_and_lands fd_check_arms_and_lands) (G_check_arms_and_lands : FnOk P w K mg base CX0 4 f_check_arms_and_lands fd_check_arms_and_lands ["arms", "lands"] (spP K T p_check_arms_and_lands)) : FnOk P w K mg base CX0 5 f fd ["arms", "lands"] (spP K T p_all_arrangements) :=
  fn_pure D.fn sc_all_arrangements g_all_arrangements (by decide) fun cdv A outer s H E H0 F0 io hr => (ess_cons (es_exp (eo_call (fun h => pe_call G_check_arms_and_lands (hr.mono (by decide)) (by rfl) D_check_arms_and_lands.mg D_check_arms_and_lands.fn.kp D_check_arms_and_lands.b .nil pass0 h) (ea_cons (eo_v 0 (pv 0)) (ea_cons (eo_v 1 (pv 1)) ea_nil)) fun _ => .nil)) (ess_cons (es_ret (eo_op op_mulB l2_mul (eo_bn (fun h => pe_callBfun cr_fac (by rfl) B.m_factorial h) ln_fac (ea_cons (eo_v 1 (pv 1)) ea_nil)) (eo_bn (fun h => pe_callBfun cr_comb (by rfl) B.m_comb h) ln_comb (ea_cons (eo_op op_sub l2_sub (eo_op op_add3 l2_add3 (eo_v 1 (pv 1)) (eo_v 0 (pv 0))) eo_int) (ea_cons (eo_op op_sub l2_sub (eo_v 0 (pv 0)) eo_int) ea_nil))))) ess_nil))
/-! ### _law_choices -/
abbrev st__law_choices : Stmt := topS 51
theorem sc__law_choices : FnScope ["whole", "part", "found", "k"] ["whole", "part"] (defScope st__law_choices) := ⟨rfl, rfl, rfl, by decide +kernel, rfl, by decide +kernel, by decide +kernel⟩
def b1__law_choices : SS := (sSeq (sAsg (s2 fDiv (s2 fMul (sV 2) (s2 fSub (sV 0) (sV 3))) (s2 fAdd (sV 3) (sC (.int 1)))) (gN 2)) sNx)
def l1__law_choices : SS := sFor (gN 3) (sRg1 (sCons (sV 1) sNil)) b1__law_choices
def g__law_choices : SS := (sSeq (sAsg (sC (.int 1)) (gN 2)) (sSeq l1__law_choices (sSeq (sRet (sV 2)) sNx)))
def p__law_choices : List PyData → Option PyData := fun ds => if ds.length = 2 then bodyP g__law_choices 4 ds else none
theorem ok__law_choices {f : Addr} {fd : FuncData} (D : Dk K mg "_law_choices" st__law_choices ["whole", "part"] f fd) (B : Bt mg) : FnOk P w K mg base CX0 1 f fd ["whole", "part"] (spP K T p__law_choices) :=
  fn_pure D.fn sc__law_choices g__law_choices (by decide) fun cdv A outer s H E H0 F0 io hr => (ess_cons (es_asg (fun h hg => ps_asg h hg) eo_int (eg_n 2 (pg_name (i := 2) sc__law_choices.nd rfl (Or.inl rfl)))) (ess_cons (es_for (fun wi hg hb => ps_for PassesOwn.never rfl wi hg hb) (ei_rg1 (fun h => pi_range1 (by rfl) B.n_range h) (ea_cons (eo_v 1 (pv 1)) ea_nil)) (eg_n 3 (pg_name (i := 3) sc__law_choices.nd rfl (Or.inl rfl))) (ess_cons (es_asg (fun h hg => ps_asg h hg) (eo_op op_fdivB l2_div (eo_op op_mulB l2_mul (eo_v 2 (pv 2)) (eo_op op_sub l2_sub (eo_v 0 (pv 0)) (eo_v 3 (pv 3)))) (eo_op op_add3 l2_add3 (eo_v 3 (pv 3)) eo_int)) (eg_n 2 (pg_name (i := 2) sc__law_choices.nd rfl (Or.inl rfl)))) ess_nil)) (ess_cons (es_ret (eo_v 2 (pv 2))) ess_nil)))
/-! ### arrangement_count -/
abbrev st_arrangement_count : Stmt := topS 38
theorem sc_arrangement_count : FnScope ["arms", "lands", "others", "ways"] ["arms", "lands"] (defScope st_arrangement_count) := ⟨rfl, rfl, rfl, by decide +kernel, rfl, by decide +kernel, by decide +kernel⟩
def g_arrangement_count : SS := (sSeq (sExp (sCall p_check_arms_and_lands [] (sCons (sV 0) (sCons (sV 1) sNil)))) (sSeq (sAsg (s2 fSub (sV 1) (sV 0)) (gN 2)) (sSeq (sIfS (toT (s2 fLt (sV 2) (sC (.int 0)))) (sSeq (sRet (sC (.int 0))) sNx) sNx) (sSeq (sAsg (s2 fAdd (s2 fMul (sV 0) (sN fComb (sCons (s2 fSub (s2 fAdd (sV 2) (sV 0)) (sC (.int 2))) (sCons (s2 fSub (sV 0) (sC (.int 2))) sNil)))) (sN fComb (sCons (s2 fSub (s2 fAdd (sV 2) (sV 0)) (sC (.int 2))) (sCons (s2 fSub (sV 0) (sC (.int 1))) sNil)))) (gN 3)) (sSeq (sRet (s2 fMul (sV 3) (sN fFac (sCons (sV 2) sNil)))) sNx)))))
def p_arrangement_count : List PyData → Option PyData := fun ds => if ds.length = 2 then bodyP g_arrangement_count 4 ds else none
theorem ok_arrangement_count {f : Addr} {fd : FuncData} (D : Dk K mg "arrangement_count" st_arrangement_count ["arms", "lands"] f fd) (B : Bt mg) {f_check_arms_and_lands : Addr} {fd_check_arms_and_lands : FuncData} (D_check_arms_and_lands : Dk K mg "check_arms_and_lands" st_check_arms_and_lands ["arms", "lands"] f_check_arms_and_lands fd_check_arms_and_lands) (G_check_arms_and_lands : FnOk P w K mg base CX0 4 f_check_arms_and_lands fd_check_arms_and_lands ["arms", "lands"] (spP K T p_check_arms_and_lands)) : FnOk P w K mg base CX0 5 f fd ["arms", "lands"] (spP K T p_arrangement_count) :=
  fn_pure D.fn sc_arrangement_count g_arrangement_count (by decide) fun cdv A outer s H E H0 F0 io hr => (ess_cons (es_exp (eo_call (fun h => pe_call G_check_arms_and_lands (hr.mono (by decide)) (by rfl) D_check_arms_and_lands.mg D_check_arms_and_lands.fn.kp D_check_arms_and_lands.b .nil pass0 h) (ea_cons (eo_v 0 (pv 0)) (ea_cons (eo_v 1 (pv 1)) ea_nil)) fun _ => .nil)) (ess_cons (es_asg (fun h hg => ps_asg h hg) (eo_op op_sub l2_sub (eo_v 1 (pv 1)) (eo_v 0 (pv 0))) (eg_n 2 (pg_name (i := 2) sc_arrangement_count.nd rfl (Or.inl rfl)))) (ess_cons (es_if (et_cmp op_lt l2_lt (eo_v 2 (pv 2)) eo_int (nomark _)) (ess_cons (es_ret eo_int) ess_nil) ess_nil) (ess_cons (es_asg (fun h hg => ps_asg h hg) (eo_op op_add3 l2_add3 (eo_op op_mulB l2_mul (eo_v 0 (pv 0)) (eo_bn (fun h => pe_callBfun cr_comb (by rfl) B.m_comb h) ln_comb (ea_cons (eo_op op_sub l2_sub (eo_op op_add3 l2_add3 (eo_v 2 (pv 2)) (eo_v 0 (pv 0))) eo_int) (ea_cons (eo_op op_sub l2_sub (eo_v 0 (pv 0)) eo_int) ea_nil)))) (eo_bn (fun h => pe_callBfun cr_comb (by rfl) B.m_comb h) ln_comb (ea_cons (eo_op op_sub l2_sub (eo_op op_add3 l2_add3 (eo_v 2 (pv 2)) (eo_v 0 (pv 0))) eo_int) (ea_cons (eo_op op_sub l2_sub (eo_v 0 (pv 0)) eo_int) ea_nil)))) (eg_n 3 (pg_name (i := 3) sc_arrangement_count.nd rfl (Or.inl rfl)))) (ess_cons (es_ret (eo_op op_mulB l2_mul (eo_v 3 (pv 3)) (eo_bn (fun h => pe_callBfun cr_fac (by rfl) B.m_factorial h) ln_fac (ea_cons (eo_v 2 (pv 2)) ea_nil)))) ess_nil)))))
/-! ### law -/
abbrev st_law : Stmt := topS 52
theorem sc_law : FnScope ["script", "row", "arms", "length", "lands", "turns", "whole", "cold", "size", "warm", "ice", "k", "falls", "power", "chance"] ["script"] (defScope st_law) := ⟨rfl, rfl, rfl, by decide +kernel, rfl, by decide +kernel, by decide +kernel⟩
def b1_law : SS := (sSeq (sAsg (s2 fMul (sV 5) (sV 11)) (gN 5)) sNx)
def l1_law : SS := sFor (gN 11) (sRg2 (sCons (sC (.int 2)) (sCons (s2 fAdd (sV 4) (sC (.int 1))) sNil))) b1_law
def b2_law : SS := (sSeq (sAsg (sIf (toT (s2 fGt (sV 4) (sV 11))) (s2 fMul (sV 12) (s2 fSub (sV 4) (sV 11))) (sC (.int 0))) (gN 12)) sNx)
def l2_law : SS := sFor (gN 11) (sRg1 (sCons (sV 2) sNil)) b2_law
def b3_law : SS := (sSeq (sAsg (s2 fMul (sV 13) (sV 3)) (gN 13)) sNx)
def l3_law : SS := sFor (gN 11) (sRg1 (sCons (s2 fSub (sV 2) (sC (.int 1))) sNil)) b3_law
def g_law : SS := (sSeq (sOwn 1 (sLst (sCons (sV 0) (sCons (sC (.int 0)) (sCons (sC (.int 13937)) (sCons (sC (.int 0)) sNil)))))) (sSeq (sPar [2, 3] (sCons (s2 fAdd (sC (.int 3)) (sCallI p__law_taken (sCons (sB 1) (sCons (sC (.int 10)) sNil)))) (sCons (s2 fAdd (sC (.int 1)) (sCallI p__law_taken (sCons (sB 1) (sCons (sC (.int 30)) sNil)))) sNil))) (sSeq (sPar [4, 5] (sCons (s2 fAdd (sC (.int 2)) (sCallI p__law_taken (sCons (sB 1) (sCons (sV 3) sNil)))) (sCons (sC (.int 1)) sNil))) (sSeq (sPar [6, 7, 8] (sCons (sCall p_great_count [] (sCons (sV 2) (sCons (sV 3) (sCons (sV 4) sNil)))) (sCons (sCall p_great_frozen [] (sCons (sV 2) (sCons (sV 3) (sCons (sV 4) sNil)))) (sCons (sCall p_great_class [] (sCons (sV 2) (sCons (sV 3) (sCons (sV 4) sNil)))) sNil)))) (sSeq (sAsg (sCall p_great_classes [] (sCons (sV 2) (sCons (sV 3) (sCons (sV 4) sNil)))) (gT (gsCons (gN 9) (gsCons (gN 10) gsNil)) 2)) (sSeq l1_law (sSeq (sIfS (tOr' (toT (s2 fNe (sV 6) (s2 fMul (sCall p__law_choices [] (sCons (s2 fMul (sV 2) (sV 3)) (sCons (s2 fSub (sV 4) (sC (.int 1))) sNil))) (sV 5)))) (toT (s2 fNe (sV 6) (s2 fAdd (sV 7) (s2 fMul (sV 9) (sV 8)))))) (sSeq (sRet (sC (.bool false))) sNx) sNx) (sSeq (sIfS (tOr' (toT (s2 fNe (sCall p_frozen_share [] (sCons (sV 2) (sCons (sV 3) (sCons (sV 4) sNil)))) (sCall p__law_ratio [] (sCons (sV 7) (sCons (sV 6) sNil))))) (toT (s2 fNe (s2 fLt (sV 4) (sV 2)) (s2 fEq (sCall p_frozen_share [] (sCons (sV 2) (sCons (sV 3) (sCons (sV 4) sNil)))) (sTup (sCons (sC (.int 1)) (sCons (sC (.int 1)) sNil))))))) (sSeq (sRet (sC (.bool false))) sNx) sNx) (sSeq (sAsg (sC (.int 1)) (gN 12)) (sSeq l2_law (sSeq (sAsg (sV 2) (gN 13)) (sSeq l3_law (sSeq (sIfS (tOr' (toT (s2 fNe (sV 9) (sV 12))) (tAnd' (toT (s2 fEq (sV 4) (sV 2))) (toT (s2 fNe (sV 8) (sV 13))))) (sSeq (sRet (sC (.bool false))) sNx) sNx) (sSeq (sAsg (sCall p_same_chance [] (sCons (sV 2) (sCons (sV 3) (sCons (sV 4) sNil)))) (gN 14)) (sSeq (sIfS (tOr' (sTr (sCall p__law_less [] (sCons (sTup (sCons (sC (.int 1)) (sCons (sC (.int 1)) sNil))) (sCons (sV 14) sNil)))) (sTr (sCall p__law_less [] (sCons (sV 14) (sCons (sCall p__law_ratio [] (sCons (sC (.int 1)) (sCons (sN fMax2 (sCons (sC (.int 1)) (sCons (s2 fAdd (sV 9) (sV 10)) sNil))) sNil))) sNil))))) (sSeq (sRet (sC (.bool false))) sNx) sNx) (sSeq (sIfS (tAnd' (toT (s2 fLe (sV 4) (sC (.int 12)))) (toT (s2 fNe (sCall p_all_arrangements [] (sCons (sV 2) (sCons (sV 4) sNil))) (s2 fAdd (sV 10) (s2 fMul (sV 9) (sCall p_arrangement_count [] (sCons (sV 2) (sCons (sV 4) sNil)))))))) (sSeq (sRet (sC (.bool false))) sNx) sNx) (sSeq (sRet (sOr (s2 fGt (sV 4) (sC (.int 12))) (s2 fEq (s2 fEq (sCall p_arrangement_count [] (sCons (sV 2) (sCons (sV 4) sNil))) (sC (.int 0))) (s2 fLt (sV 4) (sV 2))))) sNx)))))))))))))))))
def p_law : List PyData → Option PyData := fun ds => if ds.length = 1 then bodyP g_law 15 ds else none
theorem ok_law {f : Addr} {fd : FuncData} (D : Dk K mg "law" st_law ["script"] f fd) (B : Bt mg) {f__law_taken : Addr} {fd__law_taken : FuncData} (D__law_taken : Dk K mg "_law_taken" st__law_taken ["row", "many"] f__law_taken fd__law_taken) (G__law_taken : FnOk P w K mg base CX0 1 f__law_taken fd__law_taken ["row", "many"] (spI K T p__law_taken)) {f_great_count : Addr} {fd_great_count : FuncData} (D_great_count : Dk K mg "great_count" st_great_count ["arms", "length", "lands"] f_great_count fd_great_count) (G_great_count : FnOk P w K mg base CX0 5 f_great_count fd_great_count ["arms", "length", "lands"] (spP K T p_great_count)) {f_great_frozen : Addr} {fd_great_frozen : FuncData} (D_great_frozen : Dk K mg "great_frozen" st_great_frozen ["arms", "length", "lands"] f_great_frozen fd_great_frozen) (G_great_frozen : FnOk P w K mg base CX0 5 f_great_frozen fd_great_frozen ["arms", "length", "lands"] (spP K T p_great_frozen)) {f_great_class : Addr} {fd_great_class : FuncData} (D_great_class : Dk K mg "great_class" st_great_class ["arms", "length", "lands"] f_great_class fd_great_class) (G_great_class : FnOk P w K mg base CX0 5 f_great_class fd_great_class ["arms", "length", "lands"] (spP K T p_great_class)) {f_great_classes : Addr} {fd_great_classes : FuncData} (D_great_classes : Dk K mg "great_classes" st_great_classes ["arms", "length", "lands"] f_great_classes fd_great_classes) (G_great_classes : FnOk P w K mg base CX0 5 f_great_classes fd_great_classes ["arms", "length", "lands"] (spP K T p_great_classes)) {f__law_choices : Addr} {fd__law_choices : FuncData} (D__law_choices : Dk K mg "_law_choices" st__law_choices ["whole", "part"] f__law_choices fd__law_choices) (G__law_choices : FnOk P w K mg base CX0 1 f__law_choices fd__law_choices ["whole", "part"] (spP K T p__law_choices)) {f_frozen_share : Addr} {fd_frozen_share : FuncData} (D_frozen_share : Dk K mg "frozen_share" st_frozen_share ["arms", "length", "lands"] f_frozen_share fd_frozen_share) (G_frozen_share : FnOk P w K mg base CX0 6 f_frozen_share fd_frozen_share ["arms", "length", "lands"] (spP K T p_frozen_share)) {f__law_ratio : Addr} {fd__law_ratio : FuncData} (D__law_ratio : Dk K mg "_law_ratio" st__law_ratio ["top", "bottom"] f__law_ratio fd__law_ratio) (G__law_ratio : FnOk P w K mg base CX0 1 f__law_ratio fd__law_ratio ["top", "bottom"] (spP K T p__law_ratio)) {f_same_chance : Addr} {fd_same_chance : FuncData} (D_same_chance : Dk K mg "same_chance" st_same_chance ["arms", "length", "lands"] f_same_chance fd_same_chance) (G_same_chance : FnOk P w K mg base CX0 5 f_same_chance fd_same_chance ["arms", "length", "lands"] (spP K T p_same_chance)) {f__law_less : Addr} {fd__law_less : FuncData} (D__law_less : Dk K mg "_law_less" st__law_less ["one", "other"] f__law_less fd__law_less) (G__law_less : FnOk P w K mg base CX0 1 f__law_less fd__law_less ["one", "other"] (spP K T p__law_less)) {f_all_arrangements : Addr} {fd_all_arrangements : FuncData} (D_all_arrangements : Dk K mg "all_arrangements" st_all_arrangements ["arms", "lands"] f_all_arrangements fd_all_arrangements) (G_all_arrangements : FnOk P w K mg base CX0 5 f_all_arrangements fd_all_arrangements ["arms", "lands"] (spP K T p_all_arrangements)) {f_arrangement_count : Addr} {fd_arrangement_count : FuncData} (D_arrangement_count : Dk K mg "arrangement_count" st_arrangement_count ["arms", "lands"] f_arrangement_count fd_arrangement_count) (G_arrangement_count : FnOk P w K mg base CX0 5 f_arrangement_count fd_arrangement_count ["arms", "lands"] (spP K T p_arrangement_count)) : FnOk P w K mg base CX0 7 f fd ["script"] (spP K T p_law) :=
  fn_pure D.fn sc_law g_law (by decide) fun cdv A outer s H E H0 F0 io hr => (ess_cons (es_own 1 (fun h => ps_set (i := 1) sc_law.nd rfl (Or.inl rfl) h) (ef_lst (ea_cons (eo_v 0 (pv 0)) (ea_cons eo_int (ea_cons eo_int (ea_cons eo_int ea_nil)))))) (ess_cons (es_par (fun h => ps_par (by rfl) sc_law.nd rfl rfl (by decide) rfl rfl h (by rfl)) (ea_cons (eo_op op_add3 l2_add3 eo_int (eo_callI (fun h => pe_call G__law_taken (hr.mono (by decide)) (by rfl) D__law_taken.mg D__law_taken.fn.kp D__law_taken.b .nil pass0 h) (ea_cons (eo_b 1 (pv 1)) (ea_cons eo_int ea_nil)))) (ea_cons (eo_op op_add3 l2_add3 eo_int (eo_callI (fun h => pe_call G__law_taken (hr.mono (by decide)) (by rfl) D__law_taken.mg D__law_taken.fn.kp D__law_taken.b .nil pass0 h) (ea_cons (eo_b 1 (pv 1)) (ea_cons eo_int ea_nil)))) ea_nil))) (ess_cons (es_par (fun h => ps_par (by rfl) sc_law.nd rfl rfl (by decide) rfl rfl h (by rfl)) (ea_cons (eo_op op_add3 l2_add3 eo_int (eo_callI (fun h => pe_call G__law_taken (hr.mono (by decide)) (by rfl) D__law_taken.mg D__law_taken.fn.kp D__law_taken.b .nil pass0 h) (ea_cons (eo_b 1 (pv 1)) (ea_cons (eo_v 3 (pv 3)) ea_nil)))) (ea_cons eo_int ea_nil))) (ess_cons (es_par3 (fun h => ps_par3 (by rfl) sc_law.nd rfl rfl rfl (by decide) (by decide) (by decide) rfl rfl rfl h (by rfl)) (ea_cons (eo_call (fun h => pe_call G_great_count (hr.mono (by decide)) (by rfl) D_great_count.mg D_great_count.fn.kp D_great_count.b .nil pass0 h) (ea_cons (eo_v 2 (pv 2)) (ea_cons (eo_v 3 (pv 3)) (ea_cons (eo_v 4 (pv 4)) ea_nil))) fun _ => .nil) (ea_cons (eo_call (fun h => pe_call G_great_frozen (hr.mono (by decide)) (by rfl) D_great_frozen.mg D_great_frozen.fn.kp D_great_frozen.b .nil pass0 h) (ea_cons (eo_v 2 (pv 2)) (ea_cons (eo_v 3 (pv 3)) (ea_cons (eo_v 4 (pv 4)) ea_nil))) fun _ => .nil) (ea_cons (eo_call (fun h => pe_call G_great_class (hr.mono (by decide)) (by rfl) D_great_class.mg D_great_class.fn.kp D_great_class.b .nil pass0 h) (ea_cons (eo_v 2 (pv 2)) (ea_cons (eo_v 3 (pv 3)) (ea_cons (eo_v 4 (pv 4)) ea_nil))) fun _ => .nil) ea_nil)))) (ess_cons (es_asg (fun h hg => ps_asg h hg) (eo_call (fun h => pe_call G_great_classes (hr.mono (by decide)) (by rfl) D_great_classes.mg D_great_classes.fn.kp D_great_classes.b .nil pass0 h) (ea_cons (eo_v 2 (pv 2)) (ea_cons (eo_v 3 (pv 3)) (ea_cons (eo_v 4 (pv 4)) ea_nil))) fun _ => .nil) (eg_t (egs_cons (eg_n 9 (pg_name (i := 9) sc_law.nd rfl (Or.inl rfl))) (egs_cons (eg_n 10 (pg_name (i := 10) sc_law.nd rfl (Or.inl rfl))) egs_nil (fun h h1 => pgs_cons h h1)) (fun h h1 => pgs_cons h h1)) (fun h => pg_tup (by rfl) h) rfl)) (ess_cons (es_for (fun wi hg hb => ps_for PassesOwn.never rfl wi hg hb) (ei_rg2 (fun h => pi_range2 (by rfl) B.n_range h) (ea_cons eo_int (ea_cons (eo_op op_add3 l2_add3 (eo_v 4 (pv 4)) eo_int) ea_nil))) (eg_n 11 (pg_name (i := 11) sc_law.nd rfl (Or.inl rfl))) (ess_cons (es_asg (fun h hg => ps_asg h hg) (eo_op op_mulB l2_mul (eo_v 5 (pv 5)) (eo_v 11 (pv 11))) (eg_n 5 (pg_name (i := 5) sc_law.nd rfl (Or.inl rfl)))) ess_nil)) (ess_cons (es_if (et_w (ew_or (et_cmp (op_neD (hu64 hr)) l2_ne (eo_v 6 (pv 6)) (eo_op op_mulB l2_mul (eo_call (fun h => pe_call G__law_choices (hr.mono (by decide)) (by rfl) D__law_choices.mg D__law_choices.fn.kp D__law_choices.b .nil pass0 h) (ea_cons (eo_op op_mulB l2_mul (eo_v 2 (pv 2)) (eo_v 3 (pv 3))) (ea_cons (eo_op op_sub l2_sub (eo_v 4 (pv 4)) eo_int) ea_nil)) fun _ => .nil) (eo_v 5 (pv 5))) (nomark _)) (ew_or1 (et_cmp (op_neD (hu64 hr)) l2_ne (eo_v 6 (pv 6)) (eo_op op_add3 l2_add3 (eo_v 7 (pv 7)) (eo_op op_mulB l2_mul (eo_v 9 (pv 9)) (eo_v 8 (pv 8)))) (nomark _))))) (ess_cons (es_ret eo_bl) ess_nil) ess_nil) (ess_cons (es_if (et_w (ew_or (et_cmp (op_neD (hu64 hr)) l2_ne (eo_call (fun h => pe_call G_frozen_share (hr.mono (by decide)) (by rfl) D_frozen_share.mg D_frozen_share.fn.kp D_frozen_share.b .nil pass0 h) (ea_cons (eo_v 2 (pv 2)) (ea_cons (eo_v 3 (pv 3)) (ea_cons (eo_v 4 (pv 4)) ea_nil))) fun _ => .nil) (eo_call (fun h => pe_call G__law_ratio (hr.mono (by decide)) (by rfl) D__law_ratio.mg D__law_ratio.fn.kp D__law_ratio.b .nil pass0 h) (ea_cons (eo_v 7 (pv 7)) (ea_cons (eo_v 6 (pv 6)) ea_nil)) fun _ => .nil) (nomark _)) (ew_or1 (et_cmp (op_neD (hu64 hr)) l2_ne (eo_cmp op_lt l2_lt (eo_v 4 (pv 4)) (eo_v 2 (pv 2)) (nomark _)) (eo_cmp (op_eqD (hu64 hr)) l2_eq (eo_call (fun h => pe_call G_frozen_share (hr.mono (by decide)) (by rfl) D_frozen_share.mg D_frozen_share.fn.kp D_frozen_share.b .nil pass0 h) (ea_cons (eo_v 2 (pv 2)) (ea_cons (eo_v 3 (pv 3)) (ea_cons (eo_v 4 (pv 4)) ea_nil))) fun _ => .nil) (eo_tup (ea_cons eo_int (ea_cons eo_int ea_nil))) (nomark _)) (nomark _))))) (ess_cons (es_ret eo_bl) ess_nil) ess_nil) (ess_cons (es_asg (fun h hg => ps_asg h hg) eo_int (eg_n 12 (pg_name (i := 12) sc_law.nd rfl (Or.inl rfl)))) (ess_cons (es_for (fun wi hg hb => ps_for PassesOwn.never rfl wi hg hb) (ei_rg1 (fun h => pi_range1 (by rfl) B.n_range h) (ea_cons (eo_v 2 (pv 2)) ea_nil)) (eg_n 11 (pg_name (i := 11) sc_law.nd rfl (Or.inl rfl))) (ess_cons (es_asg (fun h hg => ps_asg h hg) (eo_if (et_cmp op_gt l2_gt (eo_v 4 (pv 4)) (eo_v 11 (pv 11)) (nomark _)) (eo_op op_mulB l2_mul (eo_v 12 (pv 12)) (eo_op op_sub l2_sub (eo_v 4 (pv 4)) (eo_v 11 (pv 11)))) eo_int) (eg_n 12 (pg_name (i := 12) sc_law.nd rfl (Or.inl rfl)))) ess_nil)) (ess_cons (es_asg (fun h hg => ps_asg h hg) (eo_v 2 (pv 2)) (eg_n 13 (pg_name (i := 13) sc_law.nd rfl (Or.inl rfl)))) (ess_cons (es_for (fun wi hg hb => ps_for PassesOwn.never rfl wi hg hb) (ei_rg1 (fun h => pi_range1 (by rfl) B.n_range h) (ea_cons (eo_op op_sub l2_sub (eo_v 2 (pv 2)) eo_int) ea_nil)) (eg_n 11 (pg_name (i := 11) sc_law.nd rfl (Or.inl rfl))) (ess_cons (es_asg (fun h hg => ps_asg h hg) (eo_op op_mulB l2_mul (eo_v 13 (pv 13)) (eo_v 3 (pv 3))) (eg_n 13 (pg_name (i := 13) sc_law.nd rfl (Or.inl rfl)))) ess_nil)) (ess_cons (es_if (et_w (ew_or (et_cmp (op_neD (hu64 hr)) l2_ne (eo_v 9 (pv 9)) (eo_v 12 (pv 12)) (nomark _)) (ew_or1 (et_w (ew_and (et_cmp (op_eqD (hu64 hr)) l2_eq (eo_v 4 (pv 4)) (eo_v 2 (pv 2)) (nomark _)) (ew_and1 (et_cmp (op_neD (hu64 hr)) l2_ne (eo_v 8 (pv 8)) (eo_v 13 (pv 13)) (nomark _)))))))) (ess_cons (es_ret eo_bl) ess_nil) ess_nil) (ess_cons (es_asg (fun h hg => ps_asg h hg) (eo_call (fun h => pe_call G_same_chance (hr.mono (by decide)) (by rfl) D_same_chance.mg D_same_chance.fn.kp D_same_chance.b .nil pass0 h) (ea_cons (eo_v 2 (pv 2)) (ea_cons (eo_v 3 (pv 3)) (ea_cons (eo_v 4 (pv 4)) ea_nil))) fun _ => .nil) (eg_n 14 (pg_name (i := 14) sc_law.nd rfl (Or.inl rfl)))) (ess_cons (es_if (et_w (ew_or (et_tr (eo_call (fun h => pe_call G__law_less (hr.mono (by decide)) (by rfl) D__law_less.mg D__law_less.fn.kp D__law_less.b .nil pass0 h) (ea_cons (eo_tup (ea_cons eo_int (ea_cons eo_int ea_nil))) (ea_cons (eo_v 14 (pv 14)) ea_nil)) fun _ => .nil)) (ew_or1 (et_tr (eo_call (fun h => pe_call G__law_less (hr.mono (by decide)) (by rfl) D__law_less.mg D__law_less.fn.kp D__law_less.b .nil pass0 h) (ea_cons (eo_v 14 (pv 14)) (ea_cons (eo_call (fun h => pe_call G__law_ratio (hr.mono (by decide)) (by rfl) D__law_ratio.mg D__law_ratio.fn.kp D__law_ratio.b .nil pass0 h) (ea_cons eo_int (ea_cons (eo_bn (fun h => pe_callB (call_max2 (by rfl)) (by rfl) B.n_max (by decide +kernel) h) ln_max2 (ea_cons eo_int (ea_cons (eo_op op_add3 l2_add3 (eo_v 9 (pv 9)) (eo_v 10 (pv 10))) ea_nil))) ea_nil)) fun _ => .nil) ea_nil)) fun _ => .nil))))) (ess_cons (es_ret eo_bl) ess_nil) ess_nil) (ess_cons (es_if (et_w (ew_and (et_cmp op_le l2_le (eo_v 4 (pv 4)) eo_int (nomark _)) (ew_and1 (et_cmp (op_neD (hu64 hr)) l2_ne (eo_call (fun h => pe_call G_all_arrangements (hr.mono (by decide)) (by rfl) D_all_arrangements.mg D_all_arrangements.fn.kp D_all_arrangements.b .nil pass0 h) (ea_cons (eo_v 2 (pv 2)) (ea_cons (eo_v 4 (pv 4)) ea_nil)) fun _ => .nil) (eo_op op_add3 l2_add3 (eo_v 10 (pv 10)) (eo_op op_mulB l2_mul (eo_v 9 (pv 9)) (eo_call (fun h => pe_call G_arrangement_count (hr.mono (by decide)) (by rfl) D_arrangement_count.mg D_arrangement_count.fn.kp D_arrangement_count.b .nil pass0 h) (ea_cons (eo_v 2 (pv 2)) (ea_cons (eo_v 4 (pv 4)) ea_nil)) fun _ => .nil))) (nomark _))))) (ess_cons (es_ret eo_bl) ess_nil) ess_nil) (ess_cons (es_ret (eo_or (eo_cmp op_gt l2_gt (eo_v 4 (pv 4)) eo_int (nomark _)) (eo_one (eo_cmp (op_eqD (hu64 hr)) l2_eq (eo_cmp (op_eqD (hu64 hr)) l2_eq (eo_call (fun h => pe_call G_arrangement_count (hr.mono (by decide)) (by rfl) D_arrangement_count.mg D_arrangement_count.fn.kp D_arrangement_count.b .nil pass0 h) (ea_cons (eo_v 2 (pv 2)) (ea_cons (eo_v 4 (pv 4)) ea_nil)) fun _ => .nil) eo_int (nomark _)) (eo_cmp op_lt l2_lt (eo_v 4 (pv 4)) (eo_v 2 (pv 2)) (nomark _)) (nomark _))))) ess_nil)))))))))))))))))
end
end S37

namespace S37
open PySem PD
theorem fAdd_int (i j : Int) : fAdd (.int i) (.int j) = some (.int (i + j)) := rfl
/-- the combinators, opened -/
theorem whole_int (i : Int) : p_is_whole [.int i] = some (.bool true) := by rfl
theorem integer_int (i a b : Int) : p_is_integer [.int i, .int a, .int b] = some (.bool (decide (a ≤ i ∧ i ≤ b))) := by
  unfold p_is_integer g_is_integer
  simp [bodyP, bodyI, startE, startI, sSeq, sRet, sAsg, sExp, sIfS, sNx, sV, sB, sC, PD.s2, toT, sTr, truth, bne_dec, sChain, sAnd, sOr, sNot, sIf, tAnd', tOr', tNot', sNil, sCons, sCall, allD, sN, allR, PD.res, sTup, sLst, sFr, gN, gT, gsNil, gsCons, sIsi, tyName, isSub, sOrE, sM1, sM1T, fAdd_int, fSub, fLe, fLt, fGt, fGe, eq_int, ne_int, cont?, setCont, List.replicate, fLen, sOwn, sApp, whole_int]
  by_cases h : a ≤ i <;> simp [h]
/-! ### choices -/
def fpN (n k : Nat) : Nat := (List.range k).foldl (fun p i => p * (n - i)) 1
def cc (a b : Nat) : Nat := if b ≤ a then fpN a (min b (a - b)) / fpN (min b (a - b)) (min b (a - b)) else 0
theorem fp_cast (n : Nat) : ∀ k : Nat, k ≤ n → Builtin.Math.fallingProduct (n : Int) k = ((fpN n k : Nat) : Int)
  | 0, _ => rfl
  | k + 1, h => by
    have ih := fp_cast n k (by omega)
    unfold Builtin.Math.fallingProduct fpN at ih ⊢
    rw [List.range_succ, List.foldl_append, List.foldl_append, ih]
    show ((_ : Nat) : Int) * ((n : Int) - (k : Int)) = (((_ * (n - k) : Nat)) : Int)
    rw [Int.natCast_mul, Int.natCast_sub (by omega)]
theorem mcComb_cc (a b : Nat) : PySem.W.mcComb (a : Int) (b : Int) = ((cc a b : Nat) : Int) := by
  unfold cc
  by_cases h : b ≤ a
  · rw [if_pos h]
    have hm : min (b : Int) ((a : Int) - (b : Int)) = ((min b (a - b) : Nat) : Int) := by omega
    rw [PySem.W.mcComb_at (by omega) (by omega) hm, Int.toNat_natCast, fp_cast _ _ (by omega), fp_cast _ _ (Nat.le_refl _)]
    exact (Int.natCast_ediv _ _).symm
  · rw [if_neg h]
    exact PySem.W.mcComb_above (by omega)
theorem cc_pos {a b : Nat} (h : b ≤ a) : 0 < cc a b := by
  have := PySem.W.mcComb_pos (a := (a : Int)) (b := (b : Int)) (by omega) (by omega)
  rw [mcComb_cc] at this
  omega
theorem comb {a b : Nat} (h : a ≤ 18000) : fComb [iN a, iN b] = some (iN (cc a b)) := by
  refine (if_pos (by omega)).trans ?_
  rw [mcComb_cc]
def fac (n : Nat) : Nat := Builtin.Math.factorialNat n
theorem facD {n : Nat} (h : n ≤ 18000) : fFac [iN n] = some (iN (fac n)) := by
  refine (if_pos (by omega)).trans ?_
  rw [Int.toNat_natCast]
  rfl
theorem fac_succ (n : Nat) : fac (n + 1) = fac n * (n + 1) := PySem.W.mc_fac_succ n
theorem fac_pos (n : Nat) : 0 < fac n := PySem.W.mc_fac_pos n
def perm (a b : Nat) : Nat := if b ≤ a then fpN a b else 0
theorem permD {a b : Nat} (h : a ≤ 18000) (hb : b ≤ 18000) : fPerm [iN a, iN b] = some (iN (perm a b)) := by
  refine (if_pos (by omega)).trans ?_
  unfold perm
  by_cases h2 : b ≤ a
  · rw [if_pos h2, PySem.W.mcPerm_at (by omega), Int.toNat_natCast, fp_cast _ _ h2]
  · rw [if_neg h2, PySem.W.mcPerm_above (by omega)]
    rfl
theorem perm_fac {a : Nat} : ∀ {b : Nat}, b ≤ a → fpN a b * fac (a - b) = fac a
  | 0, _ => by show 1 * fac (a - 0) = _; rw [Nat.one_mul, Nat.sub_zero]
  | b + 1, h => by
    have ih := perm_fac (a := a) (b := b) (by omega)
    have e : fpN a (b + 1) = fpN a b * (a - b) := by
      unfold fpN
      rw [List.range_succ, List.foldl_append]
      rfl
    rw [e, ← ih, show a - b = (a - (b + 1)) + 1 by omega, fac_succ, Nat.mul_assoc, Nat.mul_comm ((a - (b + 1)) + 1)]
/-- products of what is not too great -/
theorem mulL {x y : Nat} {k l : Nat} (hx : x < 2 ^ k) (hy : y < 2 ^ l) (h : k + l < 900000) : fMul (iN x) (iN y) = some (iN (x * y)) := by
  have lg : ∀ {z j : Nat}, z < 2 ^ j → (z : Nat).log2 ≤ j := fun {z j} hz => by
    by_cases h0 : z = 0
    · subst h0
      simp
    · exact Nat.le_of_lt ((Nat.log2_lt h0).mpr hz)
  have e1 : ((x : Nat) : Int).natAbs = x := Int.natAbs_natCast x
  have e2 : ((y : Nat) : Int).natAbs = y := Int.natAbs_natCast y
  refine (if_pos (.inr (.inr (by rw [e1, e2]; have := lg hx; have := lg hy; omega)))).trans ?_
  rw [← Int.natCast_mul]
theorem mulS {x y : Nat} (hx : x < 18446744073709551616) : fMul (iN x) (iN y) = some (iN (x * y)) := by
  have e1 : ((x : Nat) : Int).natAbs = x := Int.natAbs_natCast x
  refine (if_pos (.inl (by rw [e1]; exact hx))).trans ?_
  rw [← Int.natCast_mul]
theorem cc12 : ∀ a ∈ List.range 13, ∀ b ∈ List.range 14, cc a b < 4294967296 := by decide +kernel
theorem cc30 : ∀ a ∈ List.range 32, ∀ b ∈ List.range 33, cc a b < 4294967296 := by decide +kernel
theorem cc_lt {a b : Nat} (h : a ≤ 31) (hb : b ≤ 32) : cc a b < 4294967296 := cc30 a (List.mem_range.mpr (by omega)) b (List.mem_range.mpr (by omega))
theorem fac31 : ∀ a ∈ List.range 33, fac a < 2 ^ 130 := by decide +kernel
theorem fac_lt {a : Nat} (h : a ≤ 32) : fac a < 2 ^ 130 := fac31 a (List.mem_range.mpr (by omega))
theorem perm31 : ∀ a ∈ List.range 33, ∀ b ∈ List.range 14, perm a b < 18446744073709551616 := by decide +kernel
theorem perm_lt {a b : Nat} (h : a ≤ 32) (hb : b ≤ 13) : perm a b < 18446744073709551616 := perm31 a (List.mem_range.mpr (by omega)) b (List.mem_range.mpr (by omega))
end S37

namespace S37
open PySem PD
theorem great_ok {a n m : Nat} (ha : 3 ≤ a ∧ a ≤ 12) (hn : 1 ≤ n ∧ n ≤ 30) (hm : 2 ≤ m ∧ m ≤ n + 1) : p_check_great_island [iN a, iN n, iN m] = some .none := by
  have e1 : p_check_arms [iN a, .int 12] = some .none := by
    have q : p_is_integer [iN a, .int 3, .int 12] = some (.bool true) := by rw [integer_int, decide_eq_true (by omega)]
    unfold p_check_arms g_check_arms
    simp [bodyP, bodyI, startE, startI, sSeq, sRet, sAsg, sExp, sIfS, sNx, sV, sB, sC, PD.s2, toT, sTr, truth, bne_dec, sChain, sAnd, sOr, sNot, sIf, tAnd', tOr', tNot', sNil, sCons, sCall, allD, sN, allR, PD.res, sTup, sLst, sFr, gN, gT, gsNil, gsCons, sIsi, tyName, isSub, sOrE, sM1, sM1T, fAdd_int, fSub, fLe, fLt, fGt, fGe, eq_int, ne_int, cont?, setCont, List.replicate, fLen, sOwn, sApp, q]
  have e2 : p_check_length [iN n, .int 30] = some .none := by
    have q : p_is_integer [iN n, .int 1, .int 30] = some (.bool true) := by rw [integer_int, decide_eq_true (by omega)]
    unfold p_check_length g_check_length
    simp [bodyP, bodyI, startE, startI, sSeq, sRet, sAsg, sExp, sIfS, sNx, sV, sB, sC, PD.s2, toT, sTr, truth, bne_dec, sChain, sAnd, sOr, sNot, sIf, tAnd', tOr', tNot', sNil, sCons, sCall, allD, sN, allR, PD.res, sTup, sLst, sFr, gN, gT, gsNil, gsCons, sIsi, tyName, isSub, sOrE, sM1, sM1T, fAdd_int, fSub, fLe, fLt, fGt, fGe, eq_int, ne_int, cont?, setCont, List.replicate, fLen, sOwn, sApp, q]
  have e3 : p_check_lands [iN n, iN m] = some .none := by
    have q : p_is_integer [iN m, .int 2, .int ((n : Int) + 1)] = some (.bool true) := by rw [integer_int, decide_eq_true (by omega)]
    unfold p_check_lands g_check_lands
    simp [bodyP, bodyI, startE, startI, sSeq, sRet, sAsg, sExp, sIfS, sNx, sV, sB, sC, PD.s2, toT, sTr, truth, bne_dec, sChain, sAnd, sOr, sNot, sIf, tAnd', tOr', tNot', sNil, sCons, sCall, allD, sN, allR, PD.res, sTup, sLst, sFr, gN, gT, gsNil, gsCons, sIsi, tyName, isSub, sOrE, sM1, sM1T, fAdd_int, fSub, fLe, fLt, fGt, fGe, eq_int, ne_int, cont?, setCont, List.replicate, fLen, sOwn, sApp, q]
  unfold p_check_great_island g_check_great_island
  simp [bodyP, bodyI, startE, startI, sSeq, sRet, sAsg, sExp, sIfS, sNx, sV, sB, sC, PD.s2, toT, sTr, truth, bne_dec, sChain, sAnd, sOr, sNot, sIf, tAnd', tOr', tNot', sNil, sCons, sCall, allD, sN, allR, PD.res, sTup, sLst, sFr, gN, gT, gsNil, gsCons, sIsi, tyName, isSub, sOrE, sM1, sM1T, fAdd_int, fSub, fLe, fLt, fGt, fGe, eq_int, ne_int, cont?, setCont, List.replicate, fLen, sOwn, sApp, e1, e2, e3]
/-- 1, 2, .. -/
def ups (k : Nat) : List Nat := (List.range k).map (· + 1)
theorem ups_mem {k u : Nat} : u ∈ ups k ↔ 1 ≤ u ∧ u ≤ k := by
  unfold ups
  constructor
  · intro h
    obtain ⟨i, hi, rfl⟩ := List.mem_map.mp h
    have := List.mem_range.mp hi
    omega
  · intro h
    exact List.mem_map.mpr ⟨u - 1, List.mem_range.mpr (by omega), by omega⟩
theorem ups_len (k : Nat) : (ups k).length = k := by unfold ups; simp
theorem rg_up {f : SA} {ρ ρ1 : Ev} {n : Nat} (e : f ρ = some ([.d (.int 1), .d (iN n)], ρ1)) (h : n < 1000000) : sRg2 f ρ = some ((ups (n - 1)).map iN, ρ1) := by
  rw [sRg2_small e h]
  unfold ups
  rw [List.map_map]
  rfl
theorem sum_nat : ∀ xs : List Nat, fSum [.list (xs.map iN)] = some (iN xs.sum) := by
  intro xs
  show (intsOf (xs.map iN)).map (fun ns => PyData.int ns.sum) = _
  rw [intsOf_nat]
  show some (PyData.int _) = some (PyData.int _)
  congr 2
  induction xs with
  | nil => rfl
  | cons x r ih => rw [List.map_cons, List.sum_cons, ih, List.sum_cons]; omega
def oc (a m : Nat) : Nat := ((ups (a - 2)).map fun u => cc a u * cc (m - 2) (u - 1)).sum
theorem oc_small : ∀ a ∈ List.range 13, ∀ m ∈ List.range 32, oc a m < 18446744073709551616 := by decide +kernel
theorem order_choices {a m : Nat} (ha : 3 ≤ a ∧ a ≤ 12) (hm : 2 ≤ m ∧ m ≤ 31) : p_order_choices [iN a, iN m] = some (iN (oc a m)) := by
  have c1 : c1_order_choices [.dat (iN a), .dat (iN m), .un] = some ((ups (a - 2)).map (fun u => iN (cc a u * cc (m - 2) (u - 1))), [.dat (iN a), .dat (iN m), .un]) := by
    refine sComp_all (ups (a - 2)) iN _ (by
      have e : ((a : Int) - 1) = ((a - 1 : Nat) : Int) := by omega
      have := rg_up (f := sCons (sC (.int 1)) (sCons (s2 fSub (sV 0) (sC (.int 1))) sNil)) (ρ := [.dat (iN a), .dat (iN m), .un]) (n := a - 1) (ρ1 := [.dat (iN a), .dat (iN m), .un]) (by simp [bodyP, bodyI, startE, startI, sSeq, sRet, sAsg, sExp, sIfS, sNx, sV, sB, sC, PD.s2, toT, sTr, truth, bne_dec, sChain, sAnd, sOr, sNot, sIf, tAnd', tOr', tNot', sNil, sCons, sCall, allD, sN, allR, PD.res, sTup, sLst, sFr, gN, gT, gsNil, gsCons, sIsi, tyName, isSub, sOrE, sM1, sM1T, fAdd_int, fSub, fLe, fLt, fGt, fGe, eq_int, ne_int, cont?, setCont, List.replicate, fLen, sOwn, sApp, e]) (by omega)
      rw [show a - 1 - 1 = a - 2 by omega] at this
      exact this) rfl (by rw [ups_len]; omega) rfl fun u hu => ⟨_, rfl, rfl, ?_⟩
    have hu := ups_mem.mp hu
    have e2 : ((m : Int) - 2) = ((m - 2 : Nat) : Int) := by omega
    have e3 : ((u : Int) - 1) = ((u - 1 : Nat) : Int) := by omega
    have q1 := comb (a := a) (b := u) (by omega)
    have q2 := comb (a := m - 2) (b := u - 1) (by omega)
    have q3 := mulS (x := cc a u) (y := cc (m - 2) (u - 1)) (by have := cc_lt (a := a) (b := u) (by omega) (by omega); omega)
    obtain ⟨A, hA⟩ : ∃ z, z = cc a u := ⟨_, rfl⟩
    obtain ⟨B, hB⟩ : ∃ z, z = cc (m - 2) (u - 1) := ⟨_, rfl⟩
    obtain ⟨M, hM⟩ : ∃ z, z = m - 2 := ⟨_, rfl⟩
    obtain ⟨U, hU⟩ : ∃ z, z = u - 1 := ⟨_, rfl⟩
    obtain ⟨R, hR⟩ : ∃ z, z = iN (A * B) := ⟨_, rfl⟩
    show _ = some (Ob.d (iN (cc a u * cc (m - 2) (u - 1))), _)
    rw [← hA, ← hB] at q3 ⊢
    rw [← hR] at q3 ⊢
    rw [← hA] at q1
    rw [← hB] at q2
    rw [← hM] at q2 e2
    rw [← hU] at q2 e3
    simp [bodyP, bodyI, startE, startI, sSeq, sRet, sAsg, sExp, sIfS, sNx, sV, sB, sC, PD.s2, toT, sTr, truth, bne_dec, sChain, sAnd, sOr, sNot, sIf, tAnd', tOr', tNot', sNil, sCons, sCall, allD, sN, allR, PD.res, sTup, sLst, sFr, gN, gT, gsNil, gsCons, sIsi, tyName, isSub, sOrE, sM1, sM1T, fAdd_int, fSub, fLe, fLt, fGt, fGe, eq_int, ne_int, cont?, setCont, List.replicate, fLen, sOwn, sApp, wipeE, e2, e3, q1, q2, q3]
  have sm := sum_nat ((ups (a - 2)).map fun u => cc a u * cc (m - 2) (u - 1))
  rw [List.map_map] at sm
  change fSum [.list ((ups (a - 2)).map (fun u => iN (cc a u * cc (m - 2) (u - 1))))] = some (iN (oc a m)) at sm
  obtain ⟨Z, hZ⟩ : ∃ Z, Z = (ups (a - 2)).map (fun u => iN (cc a u * cc (m - 2) (u - 1))) := ⟨_, rfl⟩
  rw [← hZ] at sm c1
  unfold p_order_choices g_order_choices
  simp [bodyP, bodyI, startE, startI, sSeq, sRet, sAsg, sExp, sIfS, sNx, sV, sB, sC, PD.s2, toT, sTr, truth, bne_dec, sChain, sAnd, sOr, sNot, sIf, tAnd', tOr', tNot', sNil, sCons, sCall, allD, sN, allR, PD.res, sTup, sLst, sFr, gN, gT, gsNil, gsCons, sIsi, tyName, isSub, sOrE, sM1, sM1T, fAdd_int, fSub, fLe, fLt, fGt, fGe, eq_int, ne_int, cont?, setCont, List.replicate, fLen, sOwn, sApp, c1, sm]
theorem count_classes {a m : Nat} (ha : 3 ≤ a ∧ a ≤ 12) (hm : 2 ≤ m ∧ m ≤ 31) : p_count_classes [iN a, iN m] = some (.tuple [iN (perm m a), iN (oc a m * fac m)]) := by
  have q1 := permD (a := m) (b := a) (by omega) (by omega)
  have q2 := order_choices ha hm
  have q3 := facD (n := m) (by omega)
  have q4 := mulS (x := oc a m) (y := fac m) (oc_small a (List.mem_range.mpr (by omega)) m (List.mem_range.mpr (by omega)))
  obtain ⟨P, hP⟩ : ∃ z, z = iN (perm m a) := ⟨_, rfl⟩
  obtain ⟨O, hO⟩ : ∃ z, z = oc a m := ⟨_, rfl⟩
  obtain ⟨Fa, hF⟩ : ∃ z, z = fac m := ⟨_, rfl⟩
  rw [← hO] at q2 q4 ⊢
  rw [← hF] at q3 q4 ⊢
  rw [← hP] at q1 ⊢
  obtain ⟨R, hR⟩ : ∃ z, z = iN (O * Fa) := ⟨_, rfl⟩
  rw [← hR] at q4 ⊢
  unfold p_count_classes g_count_classes
  simp [bodyP, bodyI, startE, startI, sSeq, sRet, sAsg, sExp, sIfS, sNx, sV, sB, sC, PD.s2, toT, sTr, truth, bne_dec, sChain, sAnd, sOr, sNot, sIf, tAnd', tOr', tNot', sNil, sCons, sCall, allD, sN, allR, PD.res, sTup, sLst, sFr, gN, gT, gsNil, gsCons, sIsi, tyName, isSub, sOrE, sM1, sM1T, fAdd_int, fSub, fLe, fLt, fGt, fGe, eq_int, ne_int, cont?, setCont, List.replicate, fLen, sOwn, sApp, q1, q2, q3, q4]
/-! ### borders on arms with none bare -/
def tm (a n k j : Nat) : Nat := cc a j * cc ((a - j) * n) k
def evs (a n k : Nat) (i : Nat) : Nat := (List.range i).foldl (fun s j => if j % 2 = 0 then s + tm a n k j else s) 0
def ods (a n k : Nat) (i : Nat) : Nat := (List.range i).foldl (fun s j => if j % 2 = 0 then s else s + tm a n k j) 0
def tot (a n k i : Nat) : Int := ((evs a n k i : Nat) : Int) - ((ods a n k i : Nat) : Int)
theorem tot_succ (a n k i : Nat) : tot a n k (i + 1) = tot a n k i + (if i % 2 = 0 then ((tm a n k i : Nat) : Int) else -((tm a n k i : Nat) : Int)) := by
  unfold tot evs ods
  rw [List.range_succ, List.foldl_append, List.foldl_append]
  simp only [List.foldl_cons, List.foldl_nil]
  split <;> omega
theorem border_choices {a n k : Nat} (ha : 2 ≤ a ∧ a ≤ 12) (hn : 1 ≤ n ∧ n ≤ 30) (hk : k ≤ 30) : p_border_choices [iN a, iN n, iN k] = some (.int (tot a n k (a + 1))) := by
  let st : Nat → Sl → Sl → Ev := fun i x y => [.dat (iN a), .dat (iN n), .dat (iN k), .dat (.int (tot a n k i)), x, y]
  have loop : ∃ ρ', l1_border_choices (st 0 .un .un) = some (.nx, ρ') ∧ ∃ x y, ρ' = st ((List.range (a + 1)).map iN).length x y := by
    refine sFor_inv (items := (List.range (a + 1)).map iN) (ρ1 := st 0 .un .un) (fun i ρ => ∃ x y, ρ = st i x y) (sRg1_small (n := a + 1) (by simp [bodyP, bodyI, startE, startI, sSeq, sRet, sAsg, sExp, sIfS, sNx, sV, sB, sC, PD.s2, toT, sTr, truth, bne_dec, sChain, sAnd, sOr, sNot, sIf, tAnd', tOr', tNot', sNil, sCons, sCall, allD, sN, allR, PD.res, sTup, sLst, sFr, gN, gT, gsNil, gsCons, sIsi, tyName, isSub, sOrE, sM1, sM1T, fAdd_int, fSub, fLe, fLt, fGt, fGe, eq_int, ne_int, cont?, setCont, List.replicate, fLen, sOwn, sApp, st]) (by omega)) ⟨_, _, rfl⟩ ?_
    rintro i d ρ hd ⟨x, y, rfl⟩
    rw [List.getElem?_map, Option.map_eq_some_iff] at hd
    obtain ⟨i', h1, rfl⟩ := hd
    obtain ⟨hi, h2⟩ := List.getElem?_eq_some_iff.mp h1
    rw [List.getElem_range] at h2
    rw [List.length_range] at hi
    subst h2
    have an : (a - i) * n ≤ 12 * 30 := Nat.mul_le_mul (by omega) (by omega)
    have e1 : ((a : Int) - (i : Int)) = ((a - i : Nat) : Int) := by omega
    have q1 := comb (a := a) (b := i) (by omega)
    have q2 := comb (a := (a - i) * n) (b := k) (by omega)
    have q3 := mulS (x := a - i) (y := n) (by omega)
    have q4 := mulS (x := cc a i) (y := cc ((a - i) * n) k) (by have := cc_lt (a := a) (b := i) (by omega) (by omega); omega)
    have et : tm a n k i = cc a i * cc ((a - i) * n) k := rfl
    rw [← et] at q4
    obtain ⟨T, hT⟩ : ∃ z, z = tm a n k i := ⟨_, rfl⟩
    have ts := tot_succ a n k i
    rw [← hT] at ts q4
    obtain ⟨A, hA⟩ : ∃ z, z = cc a i := ⟨_, rfl⟩
    obtain ⟨B, hB⟩ : ∃ z, z = cc ((a - i) * n) k := ⟨_, rfl⟩
    rw [← hA] at q1 q4
    rw [← hB] at q2 q4
    obtain ⟨M, hM⟩ : ∃ z, z = (a - i) * n := ⟨_, rfl⟩
    rw [← hM] at q2 q3
    obtain ⟨D, hD⟩ : ∃ z, z = a - i := ⟨_, rfl⟩
    rw [← hD] at q3 e1
    obtain ⟨t0, ht0⟩ : ∃ z, z = tot a n k i := ⟨_, rfl⟩
    obtain ⟨t1, ht1⟩ : ∃ z, z = tot a n k (i + 1) := ⟨_, rfl⟩
    rw [← ht0, ← ht1] at ts
    have md : fMod (iN i) (.int 2) = some (.int (((i % 2 : Nat) : Nat) : Int)) := fMod_pos (i : Int) 2 (by omega)
    refine ⟨[.dat (iN a), .dat (iN n), .dat (iN k), .dat (.int (tot a n k i)), .dat (iN i), y], .nx, st (i + 1) (.dat (iN i)) (.dat (iN T)), rfl, ?_, .inl rfl, _, _, rfl⟩
    show b1_border_choices _ = some (.nx, [.dat (iN a), .dat (iN n), .dat (iN k), .dat (.int (tot a n k (i + 1))), .dat (iN i), .dat (iN T)])
    rw [← ht0, ← ht1]
    unfold b1_border_choices
    by_cases hp : i % 2 = 0
    · rw [hp] at md
      rw [if_pos hp] at ts
      simp [bodyP, bodyI, startE, startI, sSeq, sRet, sAsg, sExp, sIfS, sNx, sV, sB, sC, PD.s2, toT, sTr, truth, bne_dec, sChain, sAnd, sOr, sNot, sIf, tAnd', tOr', tNot', sNil, sCons, sCall, allD, sN, allR, PD.res, sTup, sLst, sFr, gN, gT, gsNil, gsCons, sIsi, tyName, isSub, sOrE, sM1, sM1T, fAdd_int, fSub, fLe, fLt, fGt, fGe, eq_int, ne_int, cont?, setCont, List.replicate, fLen, sOwn, sApp, q1, q2, q3, q4, e1, md, sAug, ts]
    · rw [show i % 2 = 1 by omega] at md
      rw [if_neg hp] at ts
      simp [bodyP, bodyI, startE, startI, sSeq, sRet, sAsg, sExp, sIfS, sNx, sV, sB, sC, PD.s2, toT, sTr, truth, bne_dec, sChain, sAnd, sOr, sNot, sIf, tAnd', tOr', tNot', sNil, sCons, sCall, allD, sN, allR, PD.res, sTup, sLst, sFr, gN, gT, gsNil, gsCons, sIsi, tyName, isSub, sOrE, sM1, sM1T, fAdd_int, fSub, fLe, fLt, fGt, fGe, eq_int, ne_int, cont?, setCont, List.replicate, fLen, sOwn, sApp, q1, q2, q3, q4, e1, md, sAug, sNeg, ts]
  obtain ⟨ρ', e, x, y, rfl⟩ := loop
  rw [List.length_map, List.length_range] at e
  have e' : l1_border_choices [.dat (iN a), .dat (iN n), .dat (iN k), .dat (.int 0), .un, .un] = some (.nx, [.dat (iN a), .dat (iN n), .dat (iN k), .dat (.int (tot a n k (a + 1))), x, y]) := e
  unfold p_border_choices g_border_choices
  simp [bodyP, bodyI, startE, startI, sSeq, sRet, sAsg, sExp, sIfS, sNx, sV, sB, sC, PD.s2, toT, sTr, truth, bne_dec, sChain, sAnd, sOr, sNot, sIf, tAnd', tOr', tNot', sNil, sCons, sCall, allD, sN, allR, PD.res, sTup, sLst, sFr, gN, gT, gsNil, gsCons, sIsi, tyName, isSub, sOrE, sM1, sM1T, fAdd_int, fSub, fLe, fLt, fGt, fGe, eq_int, ne_int, cont?, setCont, List.replicate, fLen, sOwn, sApp, e']
end S37

namespace S37
open PySem PD
def pp (a n k : Nat) : Nat := evs a n k (a + 1) + a * evs (a - 1) n k a
def qq (a n k : Nat) : Nat := ods a n k (a + 1) + a * ods (a - 1) n k a
/-- the maps with at most one bare arm, by their borders -/
def wm (a n k : Nat) : Nat := pp a n k - qq a n k
structure Isl (a n m : Nat) : Prop where
  ha : 3 ≤ a ∧ a ≤ 12
  hn : 1 ≤ n ∧ n ≤ 30
  hm : 2 ≤ m ∧ m ≤ n + 1
  le : qq a n (m - 1) ≤ pp a n (m - 1)
  lt : wm a n (m - 1) < cc (a * n) (m - 1)
  big : cc (a * n) (m - 1) < 2 ^ 400
  few : m < a → wm a n (m - 1) = 0
section
variable {a n m : Nat}
theorem Isl.great (I : Isl a n m) : p_check_great_island [iN a, iN n, iN m] = some .none := great_ok I.ha I.hn I.hm
theorem warm (I : Isl a n m) : p_warm_choices [iN a, iN n, .int ((m : Int) - 1)] = some (iN (wm a n (m - 1))) := by
  have ha := I.ha
  have hn := I.hn
  have hm := I.hm
  have em : ((m : Int) - 1) = ((m - 1 : Nat) : Int) := by omega
  rw [em]
  obtain ⟨k, hk⟩ : ∃ k, k = m - 1 := ⟨_, rfl⟩
  have le := I.le
  rw [← hk] at le ⊢
  have q1 := border_choices (a := a) (n := n) (k := k) (by omega) hn (by omega)
  have q2 := border_choices (a := a - 1) (n := n) (k := k) (by omega) hn (by omega)
  rw [show a - 1 + 1 = a by omega] at q2
  have ea : ((a : Int) - 1) = ((a - 1 : Nat) : Int) := by omega
  have q3 : fMul (iN a) (.int (tot (a - 1) n k a)) = some (.int ((a : Int) * tot (a - 1) n k a)) := by
    refine if_pos (.inl ?_)
    show ((a : Nat) : Int).natAbs < 18446744073709551616
    omega
  have fin : tot a n k (a + 1) + (a : Int) * tot (a - 1) n k a = ((wm a n k : Nat) : Int) := by
    unfold wm
    rw [Int.natCast_sub le]
    unfold tot pp qq
    rw [Int.natCast_add, Int.natCast_add, Int.natCast_mul, Int.natCast_mul, Int.mul_sub]
    omega
  obtain ⟨t1, h1⟩ : ∃ z, z = tot a n k (a + 1) := ⟨_, rfl⟩
  obtain ⟨t2, h2⟩ : ∃ z, z = tot (a - 1) n k a := ⟨_, rfl⟩
  obtain ⟨t3, h3⟩ : ∃ z, z = (a : Int) * tot (a - 1) n k a := ⟨_, rfl⟩
  obtain ⟨W, hW⟩ : ∃ z, z = wm a n k := ⟨_, rfl⟩
  rw [← h1, ← h3, ← hW] at fin
  rw [← h3, ← h2] at q3
  rw [← h1] at q1
  rw [← h2] at q2
  rw [← hW]
  obtain ⟨b, hb⟩ : ∃ z, z = a - 1 := ⟨_, rfl⟩
  rw [← hb] at q2 ea
  unfold p_warm_choices g_warm_choices
  simp [bodyP, bodyI, startE, startI, sSeq, sRet, sAsg, sExp, sIfS, sNx, sV, sB, sC, PD.s2, toT, sTr, truth, bne_dec, sChain, sAnd, sOr, sNot, sIf, tAnd', tOr', tNot', sNil, sCons, sCall, allD, sN, allR, PD.res, sTup, sLst, sFr, gN, gT, gsNil, gsCons, sIsi, tyName, isSub, sOrE, sM1, sM1T, fAdd_int, fSub, fLe, fLt, fGt, fGe, eq_int, ne_int, cont?, setCont, List.replicate, fLen, sOwn, sApp, q1, ea, q2, q3, fin]
theorem wm_big (I : Isl a n m) : wm a n (m - 1) < 2 ^ 400 := Nat.lt_trans I.lt I.big
def szN (a n m : Nat) : Nat := if m < a then 0 else wm a n (m - 1) * fac (m - a)
theorem count_class (I : Isl a n m) : p_count_class [iN a, iN n, iN m] = some (iN (szN a n m)) := by
  have ha := I.ha
  have hn := I.hn
  have hm := I.hm
  have w := warm I
  unfold szN
  by_cases h : m < a
  · have h' : (m : Int) < (a : Int) := by omega
    rw [if_pos h]
    unfold p_count_class g_count_class
    simp [bodyP, bodyI, startE, startI, sSeq, sRet, sAsg, sExp, sIfS, sNx, sV, sB, sC, PD.s2, toT, sTr, truth, bne_dec, sChain, sAnd, sOr, sNot, sIf, tAnd', tOr', tNot', sNil, sCons, sCall, allD, sN, allR, PD.res, sTup, sLst, sFr, gN, gT, gsNil, gsCons, sIsi, tyName, isSub, sOrE, sM1, sM1T, fAdd_int, fSub, fLe, fLt, fGt, fGe, eq_int, ne_int, cont?, setCont, List.replicate, fLen, sOwn, sApp, h, h']
  · have h' : ¬ (m : Int) < (a : Int) := by omega
    rw [if_neg h]
    have e : ((m : Int) - (a : Int)) = ((m - a : Nat) : Int) := by omega
    have q1 := facD (n := m - a) (by omega)
    have q2 := mulL (wm_big I) (fac_lt (a := m - a) (by omega)) (by omega)
    obtain ⟨W, hW⟩ : ∃ z, z = wm a n (m - 1) := ⟨_, rfl⟩
    obtain ⟨Fa, hF⟩ : ∃ z, z = fac (m - a) := ⟨_, rfl⟩
    rw [← hW] at w q2 ⊢
    rw [← hF] at q1 q2 ⊢
    obtain ⟨R, hR⟩ : ∃ z, z = iN (W * Fa) := ⟨_, rfl⟩
    rw [← hR] at q2 ⊢
    obtain ⟨d, hd⟩ : ∃ z, z = m - a := ⟨_, rfl⟩
    rw [← hd] at q1 e
    obtain ⟨m1, hm1⟩ : ∃ z, z = (m : Int) - 1 := ⟨_, rfl⟩
    rw [← hm1] at w
    unfold p_count_class g_count_class
    simp [bodyP, bodyI, startE, startI, sSeq, sRet, sAsg, sExp, sIfS, sNx, sV, sB, sC, PD.s2, toT, sTr, truth, bne_dec, sChain, sAnd, sOr, sNot, sIf, tAnd', tOr', tNot', sNil, sCons, sCall, allD, sN, allR, PD.res, sTup, sLst, sFr, gN, gT, gsNil, gsCons, sIsi, tyName, isSub, sOrE, sM1, sM1T, fAdd_int, fSub, fLe, fLt, fGt, fGe, eq_int, ne_int, cont?, setCont, List.replicate, fLen, sOwn, sApp, h, h', w, ← hm1, e, q1, q2]
def whN (a n m : Nat) : Nat := cc (a * n) (m - 1) * fac m
theorem count_maps (I : Isl a n m) : p_count_maps [iN a, iN n, iN m] = some (iN (whN a n m)) := by
  have ha := I.ha
  have hn := I.hn
  have hm := I.hm
  have an : a * n ≤ 12 * 30 := Nat.mul_le_mul (by omega) (by omega)
  have q1 := mulS (x := a) (y := n) (by omega)
  have q2 := comb (a := a * n) (b := m - 1) (by omega)
  have q3 := facD (n := m) (by omega)
  have q4 := mulL I.big (fac_lt (a := m) (by omega)) (by omega)
  have em : ((m : Int) - 1) = ((m - 1 : Nat) : Int) := by omega
  unfold whN
  obtain ⟨C, hC⟩ : ∃ z, z = cc (a * n) (m - 1) := ⟨_, rfl⟩
  obtain ⟨Fa, hF⟩ : ∃ z, z = fac m := ⟨_, rfl⟩
  rw [← hC] at q2 q4 ⊢
  rw [← hF] at q3 q4 ⊢
  obtain ⟨R, hR⟩ : ∃ z, z = iN (C * Fa) := ⟨_, rfl⟩
  rw [← hR] at q4 ⊢
  obtain ⟨M, hM⟩ : ∃ z, z = a * n := ⟨_, rfl⟩
  rw [← hM] at q1 q2
  obtain ⟨d, hd⟩ : ∃ z, z = m - 1 := ⟨_, rfl⟩
  rw [← hd] at q2 em
  unfold p_count_maps g_count_maps
  simp [bodyP, bodyI, startE, startI, sSeq, sRet, sAsg, sExp, sIfS, sNx, sV, sB, sC, PD.s2, toT, sTr, truth, bne_dec, sChain, sAnd, sOr, sNot, sIf, tAnd', tOr', tNot', sNil, sCons, sCall, allD, sN, allR, PD.res, sTup, sLst, sFr, gN, gT, gsNil, gsCons, sIsi, tyName, isSub, sOrE, sM1, sM1T, fAdd_int, fSub, fLe, fLt, fGt, fGe, eq_int, ne_int, cont?, setCont, List.replicate, fLen, sOwn, sApp, q1, em, q2, q3, q4]
def coN (a n m : Nat) : Nat := (cc (a * n) (m - 1) - wm a n (m - 1)) * fac m
theorem count_frozen (I : Isl a n m) : p_count_frozen [iN a, iN n, iN m] = some (iN (coN a n m)) := by
  have ha := I.ha
  have hn := I.hn
  have hm := I.hm
  have an : a * n ≤ 12 * 30 := Nat.mul_le_mul (by omega) (by omega)
  have q1 := mulS (x := a) (y := n) (by omega)
  have q2 := comb (a := a * n) (b := m - 1) (by omega)
  have q3 := facD (n := m) (by omega)
  have q4 := mulL (x := cc (a * n) (m - 1) - wm a n (m - 1)) (Nat.lt_of_le_of_lt (Nat.sub_le _ _) I.big) (fac_lt (a := m) (by omega)) (by omega)
  have w := warm I
  have em : ((m : Int) - 1) = ((m - 1 : Nat) : Int) := by omega
  have es : ((cc (a * n) (m - 1) : Nat) : Int) - ((wm a n (m - 1) : Nat) : Int) = ((cc (a * n) (m - 1) - wm a n (m - 1) : Nat) : Int) := by have := I.lt; omega
  unfold coN
  obtain ⟨S, hS⟩ : ∃ z, z = cc (a * n) (m - 1) - wm a n (m - 1) := ⟨_, rfl⟩
  obtain ⟨C, hC⟩ : ∃ z, z = cc (a * n) (m - 1) := ⟨_, rfl⟩
  obtain ⟨W, hW⟩ : ∃ z, z = wm a n (m - 1) := ⟨_, rfl⟩
  obtain ⟨Fa, hF⟩ : ∃ z, z = fac m := ⟨_, rfl⟩
  rw [← hS] at q4 es ⊢
  rw [← hC] at q2 es
  rw [← hW] at w es
  rw [← hF] at q3 q4 ⊢
  obtain ⟨R, hR⟩ : ∃ z, z = iN (S * Fa) := ⟨_, rfl⟩
  rw [← hR] at q4 ⊢
  obtain ⟨M, hM⟩ : ∃ z, z = a * n := ⟨_, rfl⟩
  rw [← hM] at q1 q2
  rw [em] at w
  obtain ⟨d, hd⟩ : ∃ z, z = m - 1 := ⟨_, rfl⟩
  rw [← hd] at q2 em w
  unfold p_count_frozen g_count_frozen
  simp [bodyP, bodyI, startE, startI, sSeq, sRet, sAsg, sExp, sIfS, sNx, sV, sB, sC, PD.s2, toT, sTr, truth, bne_dec, sChain, sAnd, sOr, sNot, sIf, tAnd', tOr', tNot', sNil, sCons, sCall, allD, sN, allR, PD.res, sTup, sLst, sFr, gN, gT, gsNil, gsCons, sIsi, tyName, isSub, sOrE, sM1, sM1T, fAdd_int, fSub, fLe, fLt, fGt, fGe, eq_int, ne_int, cont?, setCont, List.replicate, fLen, sOwn, sApp, q1, em, q2, w, es, q3, q4]
/-! ### ratios -/
def rat (t b : Nat) : PyData := .tuple [iN (t / Nat.gcd t b), iN (b / Nat.gcd t b)]
theorem divL {x y : Nat} (h : 0 < y) (hy : y < 2 ^ 8000) : fDiv (iN x) (iN y) = some (iN (x / y)) := by
  have e2 : ((y : Nat) : Int).natAbs = y := Int.natAbs_natCast y
  refine (if_pos ⟨by omega, .inr ?_⟩).trans ?_
  · rw [← Int.natCast_ediv]
  · rw [e2]
    have := (Nat.log2_lt (n := y) (by omega)).mpr hy
    omega
theorem ratio {t b : Nat} (hb : 0 < b) (h : b < 2 ^ 8000) : p_ratio [iN t, iN b] = some (rat t b) := by
  have g0 : 0 < Nat.gcd t b := Nat.gcd_pos_of_pos_right _ hb
  have gl : Nat.gcd t b < 2 ^ 8000 := Nat.lt_of_le_of_lt (Nat.le_of_dvd hb (Nat.gcd_dvd_right _ _)) h
  have q0 : fGcd [iN t, iN b] = some (iN (Nat.gcd t b)) := by
    show some (PyData.int _) = _
    rw [Int.natAbs_natCast, Int.natAbs_natCast]
  have q1 := divL (x := t) g0 gl
  have q2 := divL (x := b) g0 gl
  unfold rat
  obtain ⟨G, hG⟩ : ∃ z, z = Nat.gcd t b := ⟨_, rfl⟩
  rw [← hG] at q0 q1 q2 ⊢
  obtain ⟨A, hA⟩ : ∃ z, z = iN (t / G) := ⟨_, rfl⟩
  obtain ⟨B, hB⟩ : ∃ z, z = iN (b / G) := ⟨_, rfl⟩
  rw [← hA] at q1 ⊢
  rw [← hB] at q2 ⊢
  unfold p_ratio g_ratio
  simp [bodyP, bodyI, startE, startI, sSeq, sRet, sAsg, sExp, sIfS, sNx, sV, sB, sC, PD.s2, toT, sTr, truth, bne_dec, sChain, sAnd, sOr, sNot, sIf, tAnd', tOr', tNot', sNil, sCons, sCall, allD, sN, allR, PD.res, sTup, sLst, sFr, gN, gT, gsNil, gsCons, sIsi, tyName, isSub, sOrE, sM1, sM1T, fAdd_int, fSub, fLe, fLt, fGt, fGe, eq_int, ne_int, cont?, setCont, List.replicate, fLen, sOwn, sApp, q0, q1, q2]
/-- Euclid, with enough turns -/
theorem euclid (t b : Nat) : ∀ (k f x y : Nat), y < 2 ^ k → 2 * k < f → loopW (toT (s2 fNe (sV 3) (sC (.int 0)))) b1__law_ratio f [.dat (iN t), .dat (iN b), .dat (iN x), .dat (iN y)] = some (.nx, [.dat (iN t), .dat (iN b), .dat (iN (Nat.gcd x y)), .dat (iN 0)]) := by
  have one : ∀ (f x y : Nat), 0 < y → loopW (toT (s2 fNe (sV 3) (sC (.int 0)))) b1__law_ratio (f + 1) [.dat (iN t), .dat (iN b), .dat (iN x), .dat (iN y)] = loopW (toT (s2 fNe (sV 3) (sC (.int 0)))) b1__law_ratio f [.dat (iN t), .dat (iN b), .dat (iN y), .dat (iN (x % y))] := fun f x y h => by
    have h' : ¬ (y : Int) = 0 := by omega
    have md : fMod (iN x) (iN y) = some (iN (x % y)) := by
      have := fMod_pos (x : Int) (y : Int) (by omega)
      exact this.trans (congrArg (fun z => some (PyData.int z)) (Int.natCast_emod x y).symm)
    obtain ⟨M, hM⟩ : ∃ z, z = iN (x % y) := ⟨_, rfl⟩
    rw [← hM] at md ⊢
    have e1 : toT (s2 fNe (sV 3) (sC (.int 0))) [.dat (iN t), .dat (iN b), .dat (iN x), .dat (iN y)] = some (true, [.dat (iN t), .dat (iN b), .dat (iN x), .dat (iN y)]) := by
      simp [bodyP, bodyI, startE, startI, sSeq, sRet, sAsg, sExp, sIfS, sNx, sV, sB, sC, PD.s2, toT, sTr, truth, bne_dec, sChain, sAnd, sOr, sNot, sIf, tAnd', tOr', tNot', sNil, sCons, sCall, allD, sN, allR, PD.res, sTup, sLst, sFr, gN, gT, gsNil, gsCons, sIsi, tyName, isSub, sOrE, sM1, sM1T, fAdd_int, fSub, fLe, fLt, fGt, fGe, eq_int, ne_int, cont?, setCont, List.replicate, fLen, sOwn, sApp, h']
      omega
    have e2 : b1__law_ratio [.dat (iN t), .dat (iN b), .dat (iN x), .dat (iN y)] = some (.nx, [.dat (iN t), .dat (iN b), .dat (iN y), .dat M]) := by
      unfold b1__law_ratio
      simp [bodyP, bodyI, startE, startI, sSeq, sRet, sAsg, sExp, sIfS, sNx, sV, sB, sC, PD.s2, toT, sTr, truth, bne_dec, sChain, sAnd, sOr, sNot, sIf, tAnd', tOr', tNot', sNil, sCons, sCall, allD, sN, allR, PD.res, sTup, sLst, sFr, gN, gT, gsNil, gsCons, sIsi, tyName, isSub, sOrE, sM1, sM1T, fAdd_int, fSub, fLe, fLt, fGt, fGe, eq_int, ne_int, cont?, setCont, List.replicate, fLen, sOwn, sApp, sPar, putDs, fInt, md]
    simp only [loopW, e1, e2]
  have zero : ∀ (f x : Nat), loopW (toT (s2 fNe (sV 3) (sC (.int 0)))) b1__law_ratio (f + 1) [.dat (iN t), .dat (iN b), .dat (iN x), .dat (iN 0)] = some (.nx, [.dat (iN t), .dat (iN b), .dat (iN x), .dat (iN 0)]) := fun f x => by
    have e1 : toT (s2 fNe (sV 3) (sC (.int 0))) [.dat (iN t), .dat (iN b), .dat (iN x), .dat (iN 0)] = some (false, [.dat (iN t), .dat (iN b), .dat (iN x), .dat (iN 0)]) := by simp [bodyP, bodyI, startE, startI, sSeq, sRet, sAsg, sExp, sIfS, sNx, sV, sB, sC, PD.s2, toT, sTr, truth, bne_dec, sChain, sAnd, sOr, sNot, sIf, tAnd', tOr', tNot', sNil, sCons, sCall, allD, sN, allR, PD.res, sTup, sLst, sFr, gN, gT, gsNil, gsCons, sIsi, tyName, isSub, sOrE, sM1, sM1T, fAdd_int, fSub, fLe, fLt, fGt, fGe, eq_int, ne_int, cont?, setCont, List.replicate, fLen, sOwn, sApp]
    simp only [loopW, e1]
  intro k
  induction k with
  | zero =>
    intro f x y hy hf
    have : y = 0 := by simpa using hy
    subst this
    obtain ⟨f', rfl⟩ : ∃ f', f = f' + 1 := ⟨f - 1, by omega⟩
    rw [zero, Nat.gcd_zero_right]
  | succ k ih =>
    intro f x y hy hf
    by_cases h0 : y = 0
    · subst h0
      obtain ⟨f', rfl⟩ : ∃ f', f = f' + 1 := ⟨f - 1, by omega⟩
      rw [zero, Nat.gcd_zero_right]
    · obtain ⟨f', rfl⟩ : ∃ f', f = f' + 2 := ⟨f - 2, by omega⟩
      rw [one (f' + 1) x y (by omega)]
      have lt1 : x % y < y := Nat.mod_lt _ (by omega)
      by_cases h1 : x % y = 0
      · rw [h1, zero]
        have : Nat.gcd x y = y := by rw [Nat.gcd_comm, Nat.gcd_rec, h1, Nat.gcd_zero_left]
        rw [this]
      · rw [one f' y (x % y) (by omega)]
        have half : y % (x % y) < 2 ^ k := by
          have h2 : y % (x % y) < x % y := Nat.mod_lt _ (by omega)
          have h3 : y % (x % y) + (x % y) * (y / (x % y)) = y := Nat.mod_add_div _ _
          have h4 : 1 ≤ y / (x % y) := Nat.div_pos (by omega) (by omega)
          have h5 : (x % y) * 1 ≤ (x % y) * (y / (x % y)) := Nat.mul_le_mul_left _ h4
          rw [Nat.pow_succ] at hy
          omega
        rw [ih f' (x % y) (y % (x % y)) half (by omega)]
        have : Nat.gcd (x % y) (y % (x % y)) = Nat.gcd x y := by
          rw [Nat.gcd_comm (x % y), ← Nat.gcd_rec, ← Nat.gcd_rec, Nat.gcd_comm]
        rw [this]
theorem law_ratio {t b : Nat} (hb : 0 < b) (h : b < 2 ^ 8000) : p__law_ratio [iN t, iN b] = some (rat t b) := by
  have g0 : 0 < Nat.gcd t b := Nat.gcd_pos_of_pos_right _ hb
  have gl : Nat.gcd t b < 2 ^ 8000 := Nat.lt_of_le_of_lt (Nat.le_of_dvd hb (Nat.gcd_dvd_right _ _)) h
  have lp : w1__law_ratio [.dat (iN t), .dat (iN b), .dat (iN t), .dat (iN b)] = some (.nx, [.dat (iN t), .dat (iN b), .dat (iN (Nat.gcd t b)), .dat (iN 0)]) := euclid t b 8000 100000 t b h (by omega)
  have q1 := divL (x := t) g0 gl
  have q2 := divL (x := b) g0 gl
  unfold rat
  obtain ⟨G, hG⟩ : ∃ z, z = Nat.gcd t b := ⟨_, rfl⟩
  rw [← hG] at lp q1 q2 ⊢
  obtain ⟨A, hA⟩ : ∃ z, z = iN (t / G) := ⟨_, rfl⟩
  obtain ⟨B, hB⟩ : ∃ z, z = iN (b / G) := ⟨_, rfl⟩
  rw [← hA] at q1 ⊢
  rw [← hB] at q2 ⊢
  have a1 : fAbs [iN t] = some (iN t) := by
    show some (PyData.int (if _ then _ else _)) = _
    rw [if_neg (by omega)]
  have a2 : fAbs [iN b] = some (iN b) := by
    show some (PyData.int (if _ then _ else _)) = _
    rw [if_neg (by omega)]
  have hb' : (0 : Int) < (b : Int) := by omega
  unfold p__law_ratio g__law_ratio
  simp [bodyP, bodyI, startE, startI, sSeq, sRet, sAsg, sExp, sIfS, sNx, sV, sB, sC, PD.s2, toT, sTr, truth, bne_dec, sChain, sAnd, sOr, sNot, sIf, tAnd', tOr', tNot', sNil, sCons, sCall, allD, sN, allR, PD.res, sTup, sLst, sFr, gN, gT, gsNil, gsCons, sIsi, tyName, isSub, sOrE, sM1, sM1T, fAdd_int, fSub, fLe, fLt, fGt, fGe, eq_int, ne_int, cont?, setCont, List.replicate, fLen, sOwn, sApp, sPar, putDs, a1, a2, lp, hb, hb', q1, q2]
end
end S37

namespace S37
open PySem PD
theorem ups_succ (k : Nat) : ups (k + 1) = ups k ++ [k + 1] := by
  unfold ups
  rw [List.range_succ, List.map_append]
  rfl
theorem sum_app (xs ys : List Nat) : (xs ++ ys).sum = xs.sum + ys.sum := List.sum_append
theorem sum_le {B : Nat} : ∀ {xs : List Nat}, (∀ x ∈ xs, x ≤ B) → xs.sum ≤ xs.length * B
  | [], _ => by simp
  | x :: r, h => by
    have h1 := h x (by simp)
    have h2 := sum_le (xs := r) fun y hy => h y (by simp [hy])
    rw [List.sum_cons, List.length_cons, Nat.add_mul, Nat.one_mul]
    omega
/-- one arm more that is not bare: the ways, by numbers of borders -/
def more (n : Nat) (ws : List Nat) (j : Nat) : Nat := ((ups j).map fun e => cc n e * cc n e * ws.getD (j - e) 0).sum
theorem with_one_arm_more {n : Nat} {ws : List Nat} (hn : n ≤ 30) (hl : ws.length ≤ 31) : p_with_one_arm_more [iN n, .list (ws.map iN)] = some (.list (((List.range ws.length).map (more n ws)).map iN)) := by
  obtain ⟨W, hW⟩ : ∃ Z, Z = ws.map iN := ⟨_, rfl⟩
  have hWl : W.length = ws.length := by rw [hW, List.length_map]
  have at_ : ∀ x, x < ws.length → fIx (.list W) (iN x) = some (iN (ws.getD x 0)) := fun x hx => by
    rw [hW]
    refine (ix_map (f := iN) ?_).1
    rw [List.getD_eq_getElem?_getD, List.getElem?_eq_getElem hx]
    rfl
  let st : Nat → Sl → Sl → Ev := fun i x y => [.dat (iN n), .dat (.list W), .own (((List.range i).map (more n ws)).map iN), x, y, .un]
  have loop : ∃ ρ', l1_with_one_arm_more (st 0 .un .un) = some (.nx, ρ') ∧ ∃ x y, ρ' = st ((List.range ws.length).map iN).length x y ∧ plainSl y = true := by
    refine sFor_inv (items := (List.range ws.length).map iN) (ρ1 := st 0 .un .un) (fun i ρ => ∃ x y, ρ = st i x y ∧ plainSl y = true) (sRg1_small (by simp [bodyP, bodyI, startE, startI, sSeq, sRet, sAsg, sExp, sIfS, sNx, sV, sB, sC, PD.s2, toT, sTr, truth, bne_dec, sChain, sAnd, sOr, sNot, sIf, tAnd', tOr', tNot', sNil, sCons, sCall, allD, sN, allR, PD.res, sTup, sLst, sFr, gN, gT, gsNil, gsCons, sIsi, tyName, isSub, sOrE, sM1, sM1T, fAdd_int, fSub, fLe, fLt, fGt, fGe, eq_int, ne_int, cont?, setCont, List.replicate, fLen, sOwn, sApp, st, hWl]) (by omega)) ⟨_, _, rfl, rfl⟩ ?_
    rintro i d ρ hd ⟨x, y, rfl, hy⟩
    rw [List.getElem?_map, Option.map_eq_some_iff] at hd
    obtain ⟨i', h1, rfl⟩ := hd
    obtain ⟨hi, h2⟩ := List.getElem?_eq_some_iff.mp h1
    rw [List.getElem_range] at h2
    rw [List.length_range] at hi
    subst h2
    obtain ⟨L, hL⟩ : ∃ Z, Z = ((List.range i).map (more n ws)).map iN := ⟨_, rfl⟩
    have hLl : L.length < 1000000 := by rw [hL]; simp; omega
    have c1 : c1_with_one_arm_more [.dat (iN n), .dat (.list W), .own L, .dat (iN i), y, .un] = some (((ups i).map fun e => cc n e * cc n e * ws.getD (i - e) 0).map iN, [.dat (iN n), .dat (.list W), .own L, .dat (iN i), y, .un]) := by
      rw [List.map_map]
      refine sComp_all (ups i) iN _ (by
        have := rg_up (f := sCons (sC (.int 1)) (sCons (s2 fAdd (sV 3) (sC (.int 1))) sNil)) (ρ := [.dat (iN n), .dat (.list W), .own L, .dat (iN i), y, .un]) (n := i + 1) (ρ1 := [.dat (iN n), .dat (.list W), .own L, .dat (iN i), y, .un]) (by simp [bodyP, bodyI, startE, startI, sSeq, sRet, sAsg, sExp, sIfS, sNx, sV, sB, sC, PD.s2, toT, sTr, truth, bne_dec, sChain, sAnd, sOr, sNot, sIf, tAnd', tOr', tNot', sNil, sCons, sCall, allD, sN, allR, PD.res, sTup, sLst, sFr, gN, gT, gsNil, gsCons, sIsi, tyName, isSub, sOrE, sM1, sM1T, fAdd_int, fSub, fLe, fLt, fGt, fGe, eq_int, ne_int, cont?, setCont, List.replicate, fLen, sOwn, sApp]) (by omega)
        exact this) rfl (by rw [ups_len]; omega) rfl fun e he => ⟨_, rfl, rfl, ?_⟩
      have he := ups_mem.mp he
      have q1 := comb (a := n) (b := e) (by omega)
      have lt := cc_lt (a := n) (b := e) (by omega) (by omega)
      have q2 := mulS (x := cc n e) (y := cc n e) (by omega)
      have q3 := mulS (x := cc n e * cc n e) (y := ws.getD (i - e) 0) (by
        have := Nat.mul_lt_mul'' lt lt
        omega)
      have q4 := at_ (i - e) (by omega)
      have es : ((i : Int) - (e : Int)) = ((i - e : Nat) : Int) := by omega
      obtain ⟨A, hA⟩ : ∃ z, z = cc n e := ⟨_, rfl⟩
      obtain ⟨B, hB⟩ : ∃ z, z = ws.getD (i - e) 0 := ⟨_, rfl⟩
      show _ = some (Ob.d (iN (cc n e * cc n e * ws.getD (i - e) 0)), _)
      rw [← hB] at q3 q4 ⊢
      rw [← hA] at q1 q2 q3 ⊢
      obtain ⟨R, hR⟩ : ∃ z, z = iN (A * A * B) := ⟨_, rfl⟩
      obtain ⟨AA, hAA⟩ : ∃ z, z = iN (A * A) := ⟨_, rfl⟩
      rw [← hR, ← hAA] at q3
      rw [← hR]
      rw [← hAA] at q2
      obtain ⟨D, hD⟩ : ∃ z, z = i - e := ⟨_, rfl⟩
      rw [← hD] at q4 es
      simp [bodyP, bodyI, startE, startI, sSeq, sRet, sAsg, sExp, sIfS, sNx, sV, sB, sC, PD.s2, toT, sTr, truth, bne_dec, sChain, sAnd, sOr, sNot, sIf, tAnd', tOr', tNot', sNil, sCons, sCall, allD, sN, allR, PD.res, sTup, sLst, sFr, gN, gT, gsNil, gsCons, sIsi, tyName, isSub, sOrE, sM1, sM1T, fAdd_int, fSub, fLe, fLt, fGt, fGe, eq_int, ne_int, cont?, setCont, List.replicate, fLen, sOwn, sApp, wipeE, q1, q2, es, q4, q3]
    have sm := sum_nat ((ups i).map fun e => cc n e * cc n e * ws.getD (i - e) 0)
    change fSum [.list (((ups i).map fun e => cc n e * cc n e * ws.getD (i - e) 0).map iN)] = some (iN (more n ws i)) at sm
    obtain ⟨Cm, hCm⟩ : ∃ Z, Z = ((ups i).map fun e => cc n e * cc n e * ws.getD (i - e) 0).map iN := ⟨_, rfl⟩
    rw [← hCm] at c1 sm
    obtain ⟨v, hv⟩ : ∃ z, z = iN (more n ws i) := ⟨_, rfl⟩
    rw [← hv] at sm
    have eN : ((List.range (i + 1)).map (more n ws)).map iN = L ++ [v] := by
      rw [List.range_succ, List.map_append, List.map_append, ← hL, hv]
      rfl
    refine ⟨[.dat (iN n), .dat (.list W), .own L, .dat (iN i), y, .un], .nx, st (i + 1) (.dat (iN i)) (.dat (.list Cm)), by rw [hL]; rfl, ?_, .inl rfl, _, _, rfl, rfl⟩
    show b1_with_one_arm_more _ = some (.nx, [.dat (iN n), .dat (.list W), .own (((List.range (i + 1)).map (more n ws)).map iN), .dat (iN i), .dat (.list Cm), .un])
    rw [eN]
    unfold b1_with_one_arm_more
    simp [bodyP, bodyI, startE, startI, sSeq, sRet, sAsg, sExp, sIfS, sNx, sV, sB, sC, PD.s2, toT, sTr, truth, bne_dec, sChain, sAnd, sOr, sNot, sIf, tAnd', tOr', tNot', sNil, sCons, sCall, allD, sN, allR, PD.res, sTup, sLst, sFr, gN, gT, gsNil, gsCons, sIsi, tyName, isSub, sOrE, sM1, sM1T, fAdd_int, fSub, fLe, fLt, fGt, fGe, eq_int, ne_int, cont?, setCont, List.replicate, fLen, sOwn, sApp, c1, sm, hLl]
  obtain ⟨ρ', e, x, y, rfl, _⟩ := loop
  rw [List.length_map, List.length_range] at e
  obtain ⟨L, hL⟩ : ∃ Z, Z = ((List.range ws.length).map (more n ws)).map iN := ⟨_, rfl⟩
  have e' : l1_with_one_arm_more [.dat (iN n), .dat (.list W), .own [], .un, .un, .un] = some (.nx, [.dat (iN n), .dat (.list W), .own L, x, y, .un]) := by
    rw [hL]
    exact e
  rw [← hW, ← hL]
  unfold p_with_one_arm_more g_with_one_arm_more
  simp [bodyP, bodyI, startE, startI, sSeq, sRet, sAsg, sExp, sIfS, sNx, sV, sB, sC, PD.s2, toT, sTr, truth, bne_dec, sChain, sAnd, sOr, sNot, sIf, tAnd', tOr', tNot', sNil, sCons, sCall, allD, sN, allR, PD.res, sTup, sLst, sFr, gN, gT, gsNil, gsCons, sIsi, tyName, isSub, sOrE, sM1, sM1T, fAdd_int, fSub, fLe, fLt, fGt, fGe, eq_int, ne_int, cont?, setCont, List.replicate, fLen, sOwn, sApp, sLst, e']
/-- the pairs of ways with so many arms -/
def wy (n m : Nat) : Nat → List Nat
  | 0 => 1 :: List.replicate (m - 1) 0
  | u + 1 => (List.range m).map (more n (wy n m u))
theorem wy_len {n m : Nat} (hm : 1 ≤ m) : ∀ u, (wy n m u).length = m
  | 0 => by unfold wy; simp; omega
  | u + 1 => by unfold wy; simp
theorem more_lt {n j : Nat} {ws : List Nat} {k : Nat} (hn : n ≤ 30) (hj : j ≤ 31) (h : ∀ w ∈ ws, w < 2 ^ k) : more n ws j < 2 ^ (k + 80) := by
  have each : ∀ x ∈ (ups j).map fun e => cc n e * cc n e * ws.getD (j - e) 0, x ≤ 18446744073709551616 * 2 ^ k := fun x hx => by
    obtain ⟨e, he, rfl⟩ := List.mem_map.mp hx
    have he := ups_mem.mp he
    have lt := cc_lt (a := n) (b := e) (by omega) (by omega)
    have h1 : cc n e * cc n e ≤ 18446744073709551616 := by
      have := Nat.mul_lt_mul'' lt lt
      omega
    have h2 : ws.getD (j - e) 0 ≤ 2 ^ k := by
      rw [List.getD_eq_getElem?_getD]
      by_cases hlt : j - e < ws.length
      · rw [List.getElem?_eq_getElem hlt]
        exact Nat.le_of_lt (h _ (List.getElem_mem hlt))
      · rw [List.getElem?_eq_none (by omega)]
        exact Nat.zero_le _
    exact Nat.mul_le_mul h1 h2
  have s := sum_le each
  rw [List.length_map, ups_len] at s
  unfold more
  have e : (2 : Nat) ^ (k + 80) = 1208925819614629174706176 * 2 ^ k := by rw [Nat.pow_add, Nat.mul_comm]
  have p : 0 < (2 : Nat) ^ k := Nat.two_pow_pos k
  have j2 : j * (18446744073709551616 * 2 ^ k) ≤ 31 * (18446744073709551616 * 2 ^ k) := Nat.mul_le_mul_right _ hj
  rw [e]
  omega
theorem wy_lt {n m : Nat} (hn : n ≤ 30) (hm : m ≤ 31) : ∀ u, ∀ w ∈ wy n m u, w < 2 ^ (80 * u + 1)
  | 0, w, hw => by
    unfold wy at hw
    rcases List.mem_cons.mp hw with rfl | hw
    · decide
    · have := (List.mem_replicate.mp hw).2
      subst this
      decide
  | u + 1, w, hw => by
    unfold wy at hw
    obtain ⟨j, hj, rfl⟩ := List.mem_map.mp hw
    have hj := List.mem_range.mp hj
    have := more_lt hn (show j ≤ 31 by omega) (wy_lt hn hm u)
    rw [show 80 * (u + 1) + 1 = 80 * u + 1 + 80 by omega]
    exact this
def fs (a n m i : Nat) : Nat := ((ups i).map fun u => cc a u * (wy n m u).getD (m - 1) 0).sum
theorem fs_succ (a n m i : Nat) : fs a n m (i + 1) = fs a n m i + cc a (i + 1) * (wy n m (i + 1)).getD (m - 1) 0 := by
  unfold fs
  rw [ups_succ, List.map_append, sum_app]
  simp
theorem fs_lt {a n m i : Nat} (ha : a ≤ 12) (hn : n ≤ 30) (hm : 2 ≤ m ∧ m ≤ 31) (hi : i ≤ 10) : fs a n m i < 2 ^ 900 := by
  have each : ∀ x ∈ (ups i).map fun u => cc a u * (wy n m u).getD (m - 1) 0, x ≤ 2 ^ 32 * 2 ^ 801 := fun x hx => by
    obtain ⟨u, hu, rfl⟩ := List.mem_map.mp hx
    have hu := ups_mem.mp hu
    have lt := cc_lt (a := a) (b := u) (by omega) (by omega)
    have wl := wy_len (n := n) (m := m) (by omega) u
    have h2 : (wy n m u).getD (m - 1) 0 ≤ 2 ^ 801 := by
      rw [List.getD_eq_getElem?_getD, List.getElem?_eq_getElem (by omega)]
      exact Nat.le_trans (Nat.le_of_lt (wy_lt hn hm.2 u _ (List.getElem_mem (by omega)))) (Nat.pow_le_pow_right (by omega) (by omega))
    exact Nat.mul_le_mul (by omega) h2
  have s := sum_le each
  rw [List.length_map, ups_len] at s
  unfold fs
  have i2 : i * (2 ^ 32 * 2 ^ 801) ≤ 10 * (2 ^ 32 * 2 ^ 801) := Nat.mul_le_mul_right _ hi
  refine Nat.lt_of_le_of_lt s (Nat.lt_of_le_of_lt i2 ?_)
  decide
section
variable {a n m : Nat}
theorem frozen_pairs (I : Isl a n m) : p_frozen_pairs [iN a, iN n, iN m] = some (iN (fs a n m (a - 2) * fac m)) := by
  have ha := I.ha
  have hn := I.hn
  have hm := I.hm
  let st : Nat → Sl → Ev := fun i x => [.dat (iN a), .dat (iN n), .dat (iN m), .dat (iN (fs a n m i)), .dat (.list ((wy n m i).map iN)), x]
  have em : ((m : Int) - 1) = ((m - 1 : Nat) : Int) := by omega
  have loop : ∃ ρ', l1_frozen_pairs (st 0 .un) = some (.nx, ρ') ∧ ∃ x, ρ' = st ((ups (a - 2)).map iN).length x := by
    refine sFor_inv (items := (ups (a - 2)).map iN) (ρ1 := st 0 .un) (fun i ρ => ∃ x, ρ = st i x) (by
      have e : ((a : Int) - 1) = ((a - 1 : Nat) : Int) := by omega
      have := rg_up (f := sCons (sC (.int 1)) (sCons (s2 fSub (sV 0) (sC (.int 1))) sNil)) (ρ := st 0 .un) (n := a - 1) (ρ1 := st 0 .un) (by simp [bodyP, bodyI, startE, startI, sSeq, sRet, sAsg, sExp, sIfS, sNx, sV, sB, sC, PD.s2, toT, sTr, truth, bne_dec, sChain, sAnd, sOr, sNot, sIf, tAnd', tOr', tNot', sNil, sCons, sCall, allD, sN, allR, PD.res, sTup, sLst, sFr, gN, gT, gsNil, gsCons, sIsi, tyName, isSub, sOrE, sM1, sM1T, fAdd_int, fSub, fLe, fLt, fGt, fGe, eq_int, ne_int, cont?, setCont, List.replicate, fLen, sOwn, sApp, st, e]) (by omega)
      rw [show a - 1 - 1 = a - 2 by omega] at this
      exact this) ⟨_, rfl⟩ ?_
    rintro i d ρ hd ⟨x, rfl⟩
    rw [List.getElem?_map, Option.map_eq_some_iff] at hd
    obtain ⟨u, h1, rfl⟩ := hd
    have hu : u = i + 1 ∧ i < a - 2 := by
      unfold ups at h1
      rw [List.getElem?_map, Option.map_eq_some_iff] at h1
      obtain ⟨z, h1, rfl⟩ := h1
      obtain ⟨hi, h2⟩ := List.getElem?_eq_some_iff.mp h1
      rw [List.getElem_range] at h2
      rw [List.length_range] at hi
      exact ⟨by omega, hi⟩
    have wl := wy_len (n := n) (m := m) (by omega) i
    have wl2 := wy_len (n := n) (m := m) (by omega) u
    have q0 := with_one_arm_more (n := n) (ws := wy n m i) (by omega) (by omega)
    rw [wl] at q0
    have ew : (List.range m).map (more n (wy n m i)) = wy n m u := by rw [hu.1]; rfl
    rw [ew] at q0
    have q1 := comb (a := a) (b := u) (by omega)
    have q2 : fIx (.list ((wy n m u).map iN)) (iN (m - 1)) = some (iN ((wy n m u).getD (m - 1) 0)) := by
      refine (ix_map (f := iN) ?_).1
      rw [List.getD_eq_getElem?_getD, List.getElem?_eq_getElem (by omega)]
      rfl
    have q3 := mulS (x := cc a u) (y := (wy n m u).getD (m - 1) 0) (by have := cc_lt (a := a) (b := u) (by omega) (by omega); omega)
    have fsE := fs_succ a n m i
    rw [← hu.1] at fsE
    obtain ⟨P, hP⟩ : ∃ z, z = cc a u * (wy n m u).getD (m - 1) 0 := ⟨_, rfl⟩
    rw [← hP] at q3 fsE
    obtain ⟨C, hC⟩ : ∃ z, z = cc a u := ⟨_, rfl⟩
    rw [← hC] at q1 q3
    obtain ⟨V, hV⟩ : ∃ z, z = (wy n m u).getD (m - 1) 0 := ⟨_, rfl⟩
    rw [← hV] at q2 q3
    obtain ⟨W0, hW0⟩ : ∃ z, z = (wy n m i).map iN := ⟨_, rfl⟩
    obtain ⟨W1, hW1⟩ : ∃ z, z = (wy n m u).map iN := ⟨_, rfl⟩
    rw [← hW0, ← hW1] at q0
    rw [← hW1] at q2
    obtain ⟨f0, hf0⟩ : ∃ z, z = fs a n m i := ⟨_, rfl⟩
    obtain ⟨f1, hf1⟩ : ∃ z, z = fs a n m u := ⟨_, rfl⟩
    rw [← hf0, ← hf1] at fsE
    have fin : ((f0 : Nat) : Int) + ((P : Nat) : Int) = ((f1 : Nat) : Int) := by omega
    obtain ⟨d, hd⟩ : ∃ z, z = m - 1 := ⟨_, rfl⟩
    rw [← hd] at q2 em
    refine ⟨[.dat (iN a), .dat (iN n), .dat (iN m), .dat (iN f0), .dat (.list W0), .dat (iN u)], .nx, st (i + 1) (.dat (iN u)), by rw [hf0, hW0]; rfl, ?_, .inl rfl, _, rfl⟩
    show b1_frozen_pairs _ = some (.nx, [.dat (iN a), .dat (iN n), .dat (iN m), .dat (iN (fs a n m (i + 1))), .dat (.list ((wy n m (i + 1)).map iN)), .dat (iN u)])
    rw [← hu.1, ← hf1, ← hW1]
    unfold b1_frozen_pairs
    simp [bodyP, bodyI, startE, startI, sSeq, sRet, sAsg, sExp, sIfS, sNx, sV, sB, sC, PD.s2, toT, sTr, truth, bne_dec, sChain, sAnd, sOr, sNot, sIf, tAnd', tOr', tNot', sNil, sCons, sCall, allD, sN, allR, PD.res, sTup, sLst, sFr, gN, gT, gsNil, gsCons, sIsi, tyName, isSub, sOrE, sM1, sM1T, fAdd_int, fSub, fLe, fLt, fGt, fGe, eq_int, ne_int, cont?, setCont, List.replicate, fLen, sOwn, sApp, q0, q1, em, q2, q3, sAug, fin]
  obtain ⟨ρ', e, x, rfl⟩ := loop
  rw [List.length_map, ups_len] at e
  obtain ⟨W0, hW0⟩ : ∃ z, z = (wy n m 0).map iN := ⟨_, rfl⟩
  obtain ⟨W1, hW1⟩ : ∃ z, z = (wy n m (a - 2)).map iN := ⟨_, rfl⟩
  obtain ⟨F1, hF1⟩ : ∃ z, z = fs a n m (a - 2) := ⟨_, rfl⟩
  have e' : l1_frozen_pairs [.dat (iN a), .dat (iN n), .dat (iN m), .dat (iN 0), .dat (.list W0), .un] = some (.nx, [.dat (iN a), .dat (iN n), .dat (iN m), .dat (iN F1), .dat (.list W1), x]) := by
    rw [hW0, hF1, hW1]
    exact e
  have flt := fs_lt (a := a) (n := n) (m := m) (i := a - 2) (by omega) (by omega) (by omega) (by omega)
  have q1 := mulL flt (fac_lt (a := m) (by omega)) (by omega)
  have q2 := facD (n := m) (by omega)
  rw [← hF1] at q1 ⊢
  obtain ⟨Fa, hFa⟩ : ∃ z, z = fac m := ⟨_, rfl⟩
  rw [← hFa] at q1 q2 ⊢
  obtain ⟨R, hR⟩ : ∃ z, z = iN (F1 * Fa) := ⟨_, rfl⟩
  rw [← hR] at q1 ⊢
  have fl : ∀ k : Nat, (List.replicate k [PyData.int 0]).flatten = List.replicate k (PyData.int 0) := fun k => by
    induction k with
    | zero => rfl
    | succ k ih => rw [List.replicate_succ, List.flatten_cons, ih, List.replicate_succ]; rfl
  obtain ⟨d, hd⟩ : ∃ z, z = m - 1 := ⟨_, rfl⟩
  have q3 : fAdd (.list [.int 1]) (.list (List.replicate d (PyData.int 0))) = some (.list W0) := by
    refine (if_pos (by simp; omega)).trans ?_
    rw [hW0]
    show some (PyData.list _) = some (PyData.list ((1 :: List.replicate (m - 1) 0).map iN))
    rw [List.map_cons, List.map_replicate, ← hd]
    rfl
  have q4 : sRep (sLst (sCons (sC (.int 0)) sNil)) (s2 fSub (sV 2) (sC (.int 1))) [.dat (iN a), .dat (iN n), .dat (iN m), .dat (iN 0), .un, .un] = some (List.replicate d (PyData.int 0), [.dat (iN a), .dat (iN n), .dat (iN m), .dat (iN 0), .un, .un]) := by
    rw [← fl d]
    rw [← hd] at em
    have dl : d ≤ 1000 := by omega
    unfold sRep
    simp [bodyP, bodyI, startE, startI, sSeq, sRet, sAsg, sExp, sIfS, sNx, sV, sB, sC, PD.s2, toT, sTr, truth, bne_dec, sChain, sAnd, sOr, sNot, sIf, tAnd', tOr', tNot', sNil, sCons, sCall, allD, sN, allR, PD.res, sTup, sLst, sFr, gN, gT, gsNil, gsCons, sIsi, tyName, isSub, sOrE, sM1, sM1T, fAdd_int, fSub, fLe, fLt, fGt, fGe, eq_int, ne_int, cont?, setCont, List.replicate, fLen, sOwn, sApp, em, dl]
  obtain ⟨Rp, hRp⟩ : ∃ z, z = List.replicate d (PyData.int 0) := ⟨_, rfl⟩
  rw [← hRp] at q3 q4
  have q4' : sRep (sLst (sCons (sC (.int 0)) sNil)) (s2 fSub (sV 2) (sC (.int 1))) [.dat (iN a), .dat (iN n), .dat (iN m), .dat (.int 0), .un, .un] = some (Rp, [.dat (iN a), .dat (iN n), .dat (iN m), .dat (.int 0), .un, .un]) := q4
  have e2 : l1_frozen_pairs [.dat (iN a), .dat (iN n), .dat (iN m), .dat (.int 0), .dat (.list W0), .un] = some (.nx, [.dat (iN a), .dat (iN n), .dat (iN m), .dat (iN F1), .dat (.list W1), x]) := e'
  obtain ⟨SR, hSR⟩ : ∃ z, z = sRep (sLst (sCons (sC (.int 0)) sNil)) (s2 fSub (sV 2) (sC (.int 1))) := ⟨_, rfl⟩
  rw [← hSR] at q4'
  unfold p_frozen_pairs g_frozen_pairs
  rw [← hSR]
  simp [bodyP, bodyI, startE, startI, sSeq, sRet, sAsg, sExp, sIfS, sNx, sV, sB, sC, PD.s2, toT, sTr, truth, bne_dec, sChain, sAnd, sOr, sNot, sIf, tAnd', tOr', tNot', sNil, sCons, sCall, allD, sN, allR, PD.res, sTup, sLst, sFr, gN, gT, gsNil, gsCons, sIsi, tyName, isSub, sOrE, sM1, sM1T, fAdd_int, fSub, fLe, fLt, fGt, fGe, eq_int, ne_int, cont?, setCont, List.replicate, fLen, sOwn, sApp, q4', q3, e2, q2, q1]
end
end S37

namespace S37
open PySem PD
def RowI (ns : List Int) (r : List PyData) : Prop := ∃ p s q : Int, 0 ≤ p ∧ r = [.list (ns.map .int), .int p, .int s, .int q]
theorem emod_nat {x : Int} {many : Nat} (h : 0 < many) : ∃ v : Nat, x % (many : Int) = (v : Int) ∧ v < many := by
  have h1 := Int.emod_nonneg x (show (many : Int) ≠ 0 by omega)
  have h2 := Int.emod_lt_of_pos x (show 0 < (many : Int) by omega)
  exact ⟨(x % (many : Int)).toNat, by omega, by omega⟩
theorem fMul_r (i : Int) : fMul (.int i) (.int 48271) = some (.int (i * 48271)) := by
  unfold fMul
  exact if_pos (.inr (.inl (by decide)))
theorem fPow18 : fPow (.int 10) (.int 18) = some (.int 1000000000000000000) := by rfl
theorem taken {ns : List Int} {r : List PyData} {many : Nat} (h : RowI ns r) (h1 : 0 < many) (h2 : many < 1000) : ∃ v r', p__law_taken r [iN many] = some (iN v, r') ∧ v < many ∧ RowI ns r' := by
  obtain ⟨p, s, q, hp, rfl⟩ := h
  have d1 : ∀ x : Int, fDiv (.int x) (iN many) = some (.int (x / (many : Int))) := fun x => fDiv_small x _ (by omega)
  have d7 : ∀ x : Int, fDiv (.int x) (.int 7) = some (.int (x / 7)) := fun x => fDiv_small x 7 (by omega)
  have m1 : ∀ x : Int, fMod (.int x) (iN many) = some (.int (x % (many : Int))) := fun x => fMod_pos x _ (by omega)
  have m2 : ∀ x : Int, fMod (.int x) (.int 2147483647) = some (.int (x % 2147483647)) := fun x => fMod_pos x _ (by omega)
  have i0 : ∀ a b c d : PyData, fIx (.list [a, b, c, d]) (.int 0) = some a := fun _ _ _ _ => rfl
  have i1 : ∀ a b c d : PyData, fIx (.list [a, b, c, d]) (.int 1) = some b := fun _ _ _ _ => rfl
  have i2 : ∀ a b c d : PyData, fIx (.list [a, b, c, d]) (.int 2) = some c := fun _ _ _ _ => rfl
  have i3 : ∀ a b c d : PyData, fIx (.list [a, b, c, d]) (.int 3) = some d := fun _ _ _ _ => rfl
  have x1 : L2.ixN 4 1 = some 1 := rfl
  have x2 : L2.ixN 4 2 = some 2 := rfl
  have x3 : L2.ixN 4 3 = some 3 := rfl
  by_cases hq : 0 < q
  · obtain ⟨v, e, hv⟩ := emod_nat (x := q) h1
    refine ⟨v, [.list (ns.map .int), .int p, .int s, .int (q / (many : Int))], ?_, hv, p, s, _, hp, rfl⟩
    unfold p__law_taken g__law_taken
    simp [bodyP, bodyI, startE, startI, sSeq, sRet, sAsg, sExp, sIfS, sNx, sV, sB, sC, PD.s2, toT, sTr, truth, bne_dec, sChain, sAnd, sOr, sNot, sIf, tAnd', tOr', tNot', sNil, sCons, sCall, allD, sN, allR, PD.res, sTup, sLst, sFr, gN, gT, gsNil, gsCons, sIsi, tyName, isSub, sOrE, sM1, sM1T, fAdd_int, fSub, fLe, fLt, fGt, fGe, eq_int, ne_int, cont?, setCont, List.replicate, fLen, sOwn, sApp, hq, i0, i1, i2, i3, x1, x2, x3, fInt, m1, d1, e, sSetIx]
  · by_cases hl : (ns.length : Int) < p + 1
    · obtain ⟨v, e, hv⟩ := emod_nat (x := ((s * 48271 + 11) % 2147483647) / 7) h1
      refine ⟨v, [.list (ns.map .int), .int (p + 1), .int ((s * 48271 + 11) % 2147483647), .int q], ?_, hv, _, _, _, by omega, rfl⟩
      unfold p__law_taken g__law_taken
      simp [bodyP, bodyI, startE, startI, sSeq, sRet, sAsg, sExp, sIfS, sNx, sV, sB, sC, PD.s2, toT, sTr, truth, bne_dec, sChain, sAnd, sOr, sNot, sIf, tAnd', tOr', tNot', sNil, sCons, sCall, allD, sN, allR, PD.res, sTup, sLst, sFr, gN, gT, gsNil, gsCons, sIsi, tyName, isSub, sOrE, sM1, sM1T, fAdd_int, fSub, fLe, fLt, fGt, fGe, eq_int, ne_int, cont?, setCont, List.replicate, fLen, sOwn, sApp, hq, hl, i0, i1, i2, i3, x1, x2, x3, fInt, m1, m2, d1, d7, fMul_r, e, sSetIx]
    · obtain ⟨k, hk⟩ : ∃ k : Nat, p = (k : Int) := ⟨p.toNat, by omega⟩
      have hk2 : k < ns.length := by omega
      obtain ⟨z, hz⟩ : ∃ z, ns[k]? = some z := ⟨_, List.getElem?_eq_getElem hk2⟩
      have ez := (ix_map (f := PyData.int) hz).1
      obtain ⟨v, e, hv⟩ := emod_nat (x := z) h1
      subst hk
      by_cases h18 : (1000000000000000000 : Int) ≤ z
      · refine ⟨v, [.list (ns.map .int), .int ((k : Int) + 1), .int ((s * 48271 + z + 11) % 2147483647), .int (z / (many : Int))], ?_, hv, _, _, _, by omega, rfl⟩
        unfold p__law_taken g__law_taken
        simp [bodyP, bodyI, startE, startI, sSeq, sRet, sAsg, sExp, sIfS, sNx, sV, sB, sC, PD.s2, toT, sTr, truth, bne_dec, sChain, sAnd, sOr, sNot, sIf, tAnd', tOr', tNot', sNil, sCons, sCall, allD, sN, allR, PD.res, sTup, sLst, sFr, gN, gT, gsNil, gsCons, sIsi, tyName, isSub, sOrE, sM1, sM1T, fAdd_int, fSub, fLe, fLt, fGt, fGe, eq_int, ne_int, cont?, setCont, List.replicate, fLen, sOwn, sApp, hq, hl, i0, i1, i2, i3, x1, x2, x3, fInt, m1, m2, d1, d7, fMul_r, e, sSetIx, ez, fPow18, h18]
      · refine ⟨v, [.list (ns.map .int), .int ((k : Int) + 1), .int ((s * 48271 + z + 11) % 2147483647), .int q], ?_, hv, _, _, _, by omega, rfl⟩
        unfold p__law_taken g__law_taken
        simp [bodyP, bodyI, startE, startI, sSeq, sRet, sAsg, sExp, sIfS, sNx, sV, sB, sC, PD.s2, toT, sTr, truth, bne_dec, sChain, sAnd, sOr, sNot, sIf, tAnd', tOr', tNot', sNil, sCons, sCall, allD, sN, allR, PD.res, sTup, sLst, sFr, gN, gT, gsNil, gsCons, sIsi, tyName, isSub, sOrE, sM1, sM1T, fAdd_int, fSub, fLe, fLt, fGt, fGe, eq_int, ne_int, cont?, setCont, List.replicate, fLen, sOwn, sApp, hq, hl, i0, i1, i2, i3, x1, x2, x3, fInt, m1, m2, d1, d7, fMul_r, e, sSetIx, ez, fPow18, h18]
/-! ### ratios, as numbers -/
def num (t b : Nat) : Nat := t / Nat.gcd t b
def den (t b : Nat) : Nat := b / Nat.gcd t b
theorem rat_eq (t b : Nat) : rat t b = .tuple [iN (num t b), iN (den t b)] := rfl
theorem num_g (t b : Nat) : num t b * Nat.gcd t b = t := Nat.div_mul_cancel (Nat.gcd_dvd_left t b)
theorem den_g (t b : Nat) : den t b * Nat.gcd t b = b := Nat.div_mul_cancel (Nat.gcd_dvd_right t b)
theorem den_pos {t b : Nat} (h : 0 < b) : 0 < den t b := by
  have := den_g t b
  rcases Nat.eq_zero_or_pos (den t b) with z | z
  · rw [z] at this
    omega
  · exact z
theorem num_le (t b : Nat) : num t b ≤ t := Nat.div_le_self _ _
theorem den_le (t b : Nat) : den t b ≤ b := Nat.div_le_self _ _
theorem cross (t b : Nat) : num t b * b = t * den t b := by
  have h1 := num_g t b
  have h2 := den_g t b
  obtain ⟨g, hg⟩ : ∃ z, z = Nat.gcd t b := ⟨_, rfl⟩
  rw [← hg] at h1 h2
  calc num t b * b = num t b * (den t b * g) := by rw [h2]
    _ = (num t b * g) * den t b := by rw [Nat.mul_comm (den t b), Nat.mul_assoc]
    _ = t * den t b := by rw [h1]
theorem rat_mul {x d : Nat} (h : 0 < d) : rat (x * d) d = .tuple [iN x, .int 1] := by
  have g : Nat.gcd (x * d) d = d := Nat.gcd_eq_right (Nat.dvd_mul_left d x)
  rw [rat_eq]
  unfold num den
  rw [g, Nat.mul_div_cancel _ h, Nat.div_self h]
  rfl
theorem mul_lt_pow {x y k l j : Nat} (hx : x < 2 ^ k) (hy : y < 2 ^ l) (h : k + l ≤ j) : x * y < 2 ^ j := by
  have h1 := Nat.mul_lt_mul'' hx hy
  rw [← Nat.pow_add] at h1
  exact Nat.lt_of_lt_of_le h1 (Nat.pow_le_pow_right (by omega) h)
theorem law_less {x0 x1 y0 y1 : Nat} (b0 : x0 < 2 ^ 4000) (b1 : x1 < 2 ^ 4000) (b2 : y0 < 2 ^ 4000) (b3 : y1 < 2 ^ 4000) :
    p__law_less [.tuple [iN x0, iN x1], .tuple [iN y0, iN y1]] = some (.bool (decide (x0 * y1 < y0 * x1))) := by
  have i0 : ∀ x y : PyData, fIx (.tuple [x, y]) (.int 0) = some x := fun _ _ => rfl
  have i1 : ∀ x y : PyData, fIx (.tuple [x, y]) (.int 1) = some y := fun _ _ => rfl
  have q1 := mulL b0 b3 (by omega)
  have q2 := mulL b2 b1 (by omega)
  obtain ⟨A, hA⟩ : ∃ z, z = x0 * y1 := ⟨_, rfl⟩
  obtain ⟨B, hB⟩ : ∃ z, z = y0 * x1 := ⟨_, rfl⟩
  rw [← hA] at q1 ⊢
  rw [← hB] at q2 ⊢
  unfold p__law_less g__law_less
  simp [bodyP, bodyI, startE, startI, sSeq, sRet, sAsg, sExp, sIfS, sNx, sV, sB, sC, PD.s2, toT, sTr, truth, bne_dec, sChain, sAnd, sOr, sNot, sIf, tAnd', tOr', tNot', sNil, sCons, sCall, allD, sN, allR, PD.res, sTup, sLst, sFr, gN, gT, gsNil, gsCons, sIsi, tyName, isSub, sOrE, sM1, sM1T, fAdd_int, fSub, fLe, fLt, fGt, fGe, eq_int, ne_int, cont?, setCont, List.replicate, fLen, sOwn, sApp, i0, i1, q1, q2]
/-! ### all islands, one by one -/
/-- the same numbers, their arguments made plain first -/
def c2 (a b : Nat) : Nat := match b with | 0 => cc a 0 | j + 1 => cc a (j + 1)
def ccF (a b : Nat) : Nat := match a with | 0 => c2 0 b | i + 1 => c2 (i + 1) b
theorem ccF_eq (a b : Nat) : ccF a b = cc a b := by cases a <;> cases b <;> rfl
def tmF (a n k j : Nat) : Nat := ccF a j * ccF ((a - j) * n) k
theorem tmF_eq (a n k j : Nat) : tmF a n k j = tm a n k j := by unfold tmF tm; rw [ccF_eq, ccF_eq]
def evF (a n k i : Nat) : Nat := (List.range i).foldl (fun s j => if j % 2 = 0 then s + tmF a n k j else s) 0
def odF (a n k i : Nat) : Nat := (List.range i).foldl (fun s j => if j % 2 = 0 then s else s + tmF a n k j) 0
theorem evF_eq (a n k i : Nat) : evF a n k i = evs a n k i := by
  unfold evF evs
  simp only [tmF_eq]
theorem odF_eq (a n k i : Nat) : odF a n k i = ods a n k i := by
  unfold odF ods
  simp only [tmF_eq]
def ppF (a n k : Nat) : Nat := evF a n k (a + 1) + a * evF (a - 1) n k a
def qqF (a n k : Nat) : Nat := odF a n k (a + 1) + a * odF (a - 1) n k a
theorem ppF_eq (a n k : Nat) : ppF a n k = pp a n k := by unfold ppF pp; rw [evF_eq, evF_eq]
theorem qqF_eq (a n k : Nat) : qqF a n k = qq a n k := by unfold qqF qq; rw [odF_eq, odF_eq]
def kbF (a n m : Nat) : Bool := (fun p q c => Nat.ble q p && Nat.blt (p - q) c && Nat.blt c (2 ^ 400) && (Nat.ble a m || Nat.beq p q)) (ppF a n (m - 1)) (qqF a n (m - 1)) (ccF (a * n) (m - 1))
def k2F (a n m : Nat) : Bool := (fun w c w' c' => Nat.ble ((c - w) * c') ((c' - w') * c)) (ppF a n (m - 1) - qqF a n (m - 1)) (ccF (a * n) (m - 1)) (ppF (a + 1) n (m - 1) - qqF (a + 1) n (m - 1)) (ccF ((a + 1) * n) (m - 1))
def k3F (a n m : Nat) : Bool := Nat.blt (ccF (a * n) (m - 1)) (ccF (a * (n + 1)) (m - 1))
def allI (A N : Nat) (f : Nat → Nat → Nat → Bool) : Bool := (List.range A).all fun a => (List.range N).all fun n => (List.range (n + 1)).all fun m => f (a + 3) (n + 1) (m + 2)
theorem allI_at {A N : Nat} {f : Nat → Nat → Nat → Bool} (h : allI A N f = true) {a n m : Nat} (ha : 3 ≤ a ∧ a < A + 3) (hn : 1 ≤ n ∧ n ≤ N) (hm : 2 ≤ m ∧ m ≤ n + 1) : f a n m = true := by
  unfold allI at h
  have h1 := List.all_eq_true.mp h (a - 3) (List.mem_range.mpr (by omega))
  have h2 := List.all_eq_true.mp h1 (n - 1) (List.mem_range.mpr (by omega))
  have h3 := List.all_eq_true.mp h2 (m - 2) (List.mem_range.mpr (by omega))
  rw [show a - 3 + 3 = a by omega, show n - 1 + 1 = n by omega, show m - 2 + 2 = m by omega] at h3
  exact h3
end S37

namespace S37
open PySem PD
theorem all_kb : allI 10 30 kbF = true := by decide +kernel
theorem all_k2 : allI 9 30 k2F = true := by decide +kernel
theorem all_k3 : allI 9 29 k3F = true := by decide +kernel
theorem isl {a n m : Nat} (ha : 3 ≤ a ∧ a ≤ 12) (hn : 1 ≤ n ∧ n ≤ 30) (hm : 2 ≤ m ∧ m ≤ n + 1) : Isl a n m := by
  have h := allI_at all_kb (a := a) (n := n) (m := m) (by omega) hn hm
  unfold kbF at h
  rw [ppF_eq, qqF_eq, ccF_eq] at h
  simp only [Bool.and_eq_true, Bool.or_eq_true, Nat.ble_eq, Nat.beq_eq_true_eq] at h
  obtain ⟨⟨⟨h1, h2⟩, h3⟩, h4⟩ := h
  refine ⟨ha, hn, hm, h1, ?_, ?_, fun hf => ?_⟩
  · exact Nat.lt_of_succ_le (Nat.ble_eq.mp h2)
  · exact Nat.lt_of_succ_le (Nat.ble_eq.mp h3)
  · rcases h4 with h4 | h4
    · omega
    · have e : pp a n (m - 1) = qq a n (m - 1) := by first | exact h4 | exact Nat.eq_of_beq_eq_true h4 | simpa using h4
      unfold wm
      omega
theorem grow {a n m : Nat} (ha : 3 ≤ a ∧ a ≤ 11) (hn : 1 ≤ n ∧ n ≤ 30) (hm : 2 ≤ m ∧ m ≤ n + 1) : (cc (a * n) (m - 1) - wm a n (m - 1)) * cc ((a + 1) * n) (m - 1) ≤ (cc ((a + 1) * n) (m - 1) - wm (a + 1) n (m - 1)) * cc (a * n) (m - 1) := by
  have h := allI_at all_k2 (a := a) (n := n) (m := m) (by omega) hn hm
  unfold k2F at h
  rw [ppF_eq, qqF_eq, ppF_eq, qqF_eq, ccF_eq, ccF_eq] at h
  exact Nat.ble_eq.mp h
theorem wider {a n m : Nat} (ha : 3 ≤ a ∧ a ≤ 11) (hn : 1 ≤ n ∧ n ≤ 29) (hm : 2 ≤ m ∧ m ≤ n + 1) : cc (a * n) (m - 1) < cc (a * (n + 1)) (m - 1) := by
  have h := allI_at all_k3 (a := a) (n := n) (m := m) (by omega) hn hm
  unfold k3F at h
  rw [ccF_eq, ccF_eq] at h
  exact Nat.lt_of_succ_le (Nat.ble_eq.mp h)
end S37

namespace S37
open PySem PD
section
variable {a n m : Nat}
theorem szN_lt (I : Isl a n m) : szN a n m < 2 ^ 530 := by
  have hm := I.hm
  have hn := I.hn
  unfold szN
  split
  · exact Nat.two_pow_pos 530
  · exact mul_lt_pow (wm_big I) (fac_lt (a := m - a) (by omega)) (by omega)
theorem whN_lt (I : Isl a n m) : whN a n m < 2 ^ 530 := by
  have hm := I.hm
  have hn := I.hn
  exact mul_lt_pow I.big (fac_lt (a := m) (by omega)) (by omega)
theorem whN_pos (I : Isl a n m) : 0 < whN a n m := Nat.mul_pos (by have := I.lt; omega) (fac_pos m)
theorem coN_pos (I : Isl a n m) : 0 < coN a n m := Nat.mul_pos (by have := I.lt; omega) (fac_pos m)
theorem coN_le (a n m : Nat) : coN a n m ≤ whN a n m := Nat.mul_le_mul_right _ (Nat.sub_le _ _)
theorem few_perm (h : m < a) : perm m a = 0 := by
  unfold perm
  rw [if_neg (by omega)]
/-- the maps that are not frozen, by classes -/
theorem rest (I : Isl a n m) : whN a n m - coN a n m = perm m a * szN a n m := by
  unfold whN coN szN
  rw [← Nat.sub_mul]
  have e : cc (a * n) (m - 1) - (cc (a * n) (m - 1) - wm a n (m - 1)) = wm a n (m - 1) := by have := I.lt; omega
  rw [e]
  by_cases h : m < a
  · rw [I.few h, few_perm h, Nat.zero_mul, Nat.zero_mul]
  · rw [if_neg h]
    unfold perm
    rw [if_pos (by omega), ← perm_fac (a := m) (b := a) (by omega), Nat.mul_left_comm]
def pairsN (a n m : Nat) : Nat := perm m a * szN a n m * szN a n m + fs a n m (a - 2) * fac m
theorem pairs_lt (I : Isl a n m) : perm m a * szN a n m < 2 ^ 600 := by
  have hm := I.hm
  have hn := I.hn
  have ha := I.ha
  exact mul_lt_pow (k := 64) (perm_lt (a := m) (b := a) (by omega) (by omega)) (szN_lt I) (by omega)
theorem same_chance (I : Isl a n m) : p_same_chance [iN a, iN n, iN m] = some (rat (pairsN a n m) (whN a n m * whN a n m)) := by
  have hm := I.hm
  have hn := I.hn
  have ha := I.ha
  have g := I.great
  have q1 := count_classes (a := a) (m := m) ha (by omega)
  have q2 := count_class I
  have q3 := mulS (x := perm m a) (y := szN a n m) (perm_lt (by omega) (by omega))
  have q4 := mulL (pairs_lt I) (szN_lt I) (by omega)
  have q5 := frozen_pairs I
  have q6 := count_maps I
  have q7 := mulL (whN_lt I) (whN_lt I) (by omega)
  have q8 := ratio (t := pairsN a n m) (b := whN a n m * whN a n m) (Nat.mul_pos (whN_pos I) (whN_pos I)) (mul_lt_pow (whN_lt I) (whN_lt I) (by omega))
  have sm : ((perm m a * szN a n m * szN a n m : Nat) : Int) + ((fs a n m (a - 2) * fac m : Nat) : Int) = ((pairsN a n m : Nat) : Int) := by
    unfold pairsN
    omega
  obtain ⟨R, hR⟩ : ∃ z, z = rat (pairsN a n m) (whN a n m * whN a n m) := ⟨_, rfl⟩
  rw [← hR] at q8 ⊢
  obtain ⟨PN, hPN⟩ : ∃ z, z = pairsN a n m := ⟨_, rfl⟩
  rw [← hPN] at q8 sm
  obtain ⟨T2, hT2⟩ : ∃ z, z = iN (whN a n m * whN a n m) := ⟨_, rfl⟩
  rw [← hT2] at q7 q8
  obtain ⟨T, hT⟩ : ∃ z, z = iN (whN a n m) := ⟨_, rfl⟩
  rw [← hT] at q6 q7
  obtain ⟨FP, hFP⟩ : ∃ z, z = fs a n m (a - 2) * fac m := ⟨_, rfl⟩
  rw [← hFP] at q5 sm
  obtain ⟨PSS, hPSS⟩ : ∃ z, z = perm m a * szN a n m * szN a n m := ⟨_, rfl⟩
  rw [← hPSS] at q4 sm
  obtain ⟨PS, hPS⟩ : ∃ z, z = iN (perm m a * szN a n m) := ⟨_, rfl⟩
  rw [← hPS] at q3 q4
  obtain ⟨S, hS⟩ : ∃ z, z = iN (szN a n m) := ⟨_, rfl⟩
  rw [← hS] at q2 q3 q4
  obtain ⟨P, hP⟩ : ∃ z, z = iN (perm m a) := ⟨_, rfl⟩
  rw [← hP] at q1 q3
  obtain ⟨O, hO⟩ : ∃ z, z = iN (oc a m * fac m) := ⟨_, rfl⟩
  rw [← hO] at q1
  unfold p_same_chance g_same_chance
  simp [bodyP, bodyI, startE, startI, sSeq, sRet, sAsg, sExp, sIfS, sNx, sV, sB, sC, PD.s2, toT, sTr, truth, bne_dec, sChain, sAnd, sOr, sNot, sIf, tAnd', tOr', tNot', sNil, sCons, sCall, allD, sN, allR, PD.res, sTup, sLst, sFr, gN, gT, gsNil, gsCons, sIsi, tyName, isSub, sOrE, sM1, sM1T, fAdd_int, fSub, fLe, fLt, fGt, fGe, eq_int, ne_int, cont?, setCont, List.replicate, fLen, sOwn, sApp, g, q1, q2, q3, q4, q5, sm, q6, q7, q8]
theorem great_count (I : Isl a n m) : p_great_count [iN a, iN n, iN m] = some (iN (whN a n m)) := by
  have q := count_maps I
  unfold p_great_count g_great_count
  simp [bodyP, bodyI, startE, startI, sSeq, sRet, sAsg, sExp, sIfS, sNx, sV, sB, sC, PD.s2, toT, sTr, truth, bne_dec, sChain, sAnd, sOr, sNot, sIf, tAnd', tOr', tNot', sNil, sCons, sCall, allD, sN, allR, PD.res, sTup, sLst, sFr, gN, gT, gsNil, gsCons, sIsi, tyName, isSub, sOrE, sM1, sM1T, fAdd_int, fSub, fLe, fLt, fGt, fGe, eq_int, ne_int, cont?, setCont, List.replicate, fLen, sOwn, sApp, I.great, q]
theorem great_frozen (I : Isl a n m) : p_great_frozen [iN a, iN n, iN m] = some (iN (coN a n m)) := by
  have q := count_frozen I
  unfold p_great_frozen g_great_frozen
  simp [bodyP, bodyI, startE, startI, sSeq, sRet, sAsg, sExp, sIfS, sNx, sV, sB, sC, PD.s2, toT, sTr, truth, bne_dec, sChain, sAnd, sOr, sNot, sIf, tAnd', tOr', tNot', sNil, sCons, sCall, allD, sN, allR, PD.res, sTup, sLst, sFr, gN, gT, gsNil, gsCons, sIsi, tyName, isSub, sOrE, sM1, sM1T, fAdd_int, fSub, fLe, fLt, fGt, fGe, eq_int, ne_int, cont?, setCont, List.replicate, fLen, sOwn, sApp, I.great, q]
theorem great_class (I : Isl a n m) : p_great_class [iN a, iN n, iN m] = some (iN (szN a n m)) := by
  have q := count_class I
  unfold p_great_class g_great_class
  simp [bodyP, bodyI, startE, startI, sSeq, sRet, sAsg, sExp, sIfS, sNx, sV, sB, sC, PD.s2, toT, sTr, truth, bne_dec, sChain, sAnd, sOr, sNot, sIf, tAnd', tOr', tNot', sNil, sCons, sCall, allD, sN, allR, PD.res, sTup, sLst, sFr, gN, gT, gsNil, gsCons, sIsi, tyName, isSub, sOrE, sM1, sM1T, fAdd_int, fSub, fLe, fLt, fGt, fGe, eq_int, ne_int, cont?, setCont, List.replicate, fLen, sOwn, sApp, I.great, q]
theorem great_classes (I : Isl a n m) : p_great_classes [iN a, iN n, iN m] = some (.tuple [iN (perm m a), iN (oc a m * fac m)]) := by
  have hm := I.hm
  have hn := I.hn
  have q := count_classes (a := a) (m := m) I.ha (by omega)
  obtain ⟨R, hR⟩ : ∃ z, z = PyData.tuple [iN (perm m a), iN (oc a m * fac m)] := ⟨_, rfl⟩
  rw [← hR] at q ⊢
  unfold p_great_classes g_great_classes
  simp [bodyP, bodyI, startE, startI, sSeq, sRet, sAsg, sExp, sIfS, sNx, sV, sB, sC, PD.s2, toT, sTr, truth, bne_dec, sChain, sAnd, sOr, sNot, sIf, tAnd', tOr', tNot', sNil, sCons, sCall, allD, sN, allR, PD.res, sTup, sLst, sFr, gN, gT, gsNil, gsCons, sIsi, tyName, isSub, sOrE, sM1, sM1T, fAdd_int, fSub, fLe, fLt, fGt, fGe, eq_int, ne_int, cont?, setCont, List.replicate, fLen, sOwn, sApp, I.great, q]
theorem frozen_share (I : Isl a n m) : p_frozen_share [iN a, iN n, iN m] = some (rat (coN a n m) (whN a n m)) := by
  have q1 := great_frozen I
  have q2 := count_maps I
  have q3 := ratio (t := coN a n m) (b := whN a n m) (whN_pos I) (Nat.lt_of_lt_of_le (whN_lt I) (Nat.pow_le_pow_right (by omega) (by omega)))
  obtain ⟨R, hR⟩ : ∃ z, z = rat (coN a n m) (whN a n m) := ⟨_, rfl⟩
  rw [← hR] at q3 ⊢
  obtain ⟨C, hC⟩ : ∃ z, z = iN (coN a n m) := ⟨_, rfl⟩
  obtain ⟨W, hW⟩ : ∃ z, z = iN (whN a n m) := ⟨_, rfl⟩
  rw [← hC] at q1 q3
  rw [← hW] at q2 q3
  unfold p_frozen_share g_frozen_share
  simp [bodyP, bodyI, startE, startI, sSeq, sRet, sAsg, sExp, sIfS, sNx, sV, sB, sC, PD.s2, toT, sTr, truth, bne_dec, sChain, sAnd, sOr, sNot, sIf, tAnd', tOr', tNot', sNil, sCons, sCall, allD, sN, allR, PD.res, sTup, sLst, sFr, gN, gT, gsNil, gsCons, sIsi, tyName, isSub, sOrE, sM1, sM1T, fAdd_int, fSub, fLe, fLt, fGt, fGe, eq_int, ne_int, cont?, setCont, List.replicate, fLen, sOwn, sApp, q1, q2, q3]
/-! ### what the law asks -/
/-- one ratio is not less than another -/
theorem not_less {t b t' b' : Nat} (hb : 0 < b) (hb' : 0 < b') (h : t' * b ≤ t * b') : ¬ num t b * den t' b' < num t' b' * den t b := by
  intro z
  have c1 := cross t b
  have c2 := cross t' b'
  have z2 : (num t b * den t' b') * (b * b') < (num t' b' * den t b) * (b * b') := Nat.mul_lt_mul_of_pos_right z (Nat.mul_pos hb hb')
  have e1 : (num t b * den t' b') * (b * b') = (t * b') * (den t b * den t' b') := by
    calc (num t b * den t' b') * (b * b') = (num t b * b) * (den t' b' * b') := by rw [Nat.mul_mul_mul_comm]
      _ = (t * den t b) * (den t' b' * b') := by rw [c1]
      _ = (t * b') * (den t b * den t' b') := by rw [Nat.mul_comm (den t' b') b', Nat.mul_mul_mul_comm]
  have e2 : (num t' b' * den t b) * (b * b') = (t' * b) * (den t b * den t' b') := by
    calc (num t' b' * den t b) * (b * b') = (num t' b' * den t b) * (b' * b) := by rw [Nat.mul_comm b b']
      _ = (num t' b' * b') * (den t b * b) := by rw [Nat.mul_mul_mul_comm]
      _ = (t' * den t' b') * (den t b * b) := by rw [c2]
      _ = (t' * b) * (den t b * den t' b') := by rw [Nat.mul_comm (den t b) b, Nat.mul_mul_mul_comm, Nat.mul_comm (den t' b')]
  rw [e1, e2] at z2
  have := Nat.mul_le_mul_right (den t b * den t' b') h
  omega
theorem num_lt {t b k : Nat} (h : t < 2 ^ k) : num t b < 2 ^ k := Nat.lt_of_le_of_lt (num_le t b) h
theorem den_lt {t b k : Nat} (h : b < 2 ^ k) : den t b < 2 ^ k := Nat.lt_of_le_of_lt (den_le t b) h
theorem pairs_ge (I : Isl a n m) : szN a n m * (whN a n m - coN a n m) ≤ pairsN a n m := by
  rw [rest I]
  unfold pairsN
  rw [Nat.mul_comm (szN a n m)]
  exact Nat.le_add_right _ _
theorem share_grows (I : Isl a n m) (J : Isl (a + 1) n m) (ha : a ≤ 11) : p__law_less [rat (coN (a + 1) n m) (whN (a + 1) n m), rat (coN a n m) (whN a n m)] = some (.bool false) := by
  have wl : whN a n m < 2 ^ 4000 := Nat.lt_of_lt_of_le (whN_lt I) (Nat.pow_le_pow_right (by omega) (by omega))
  have wl' : whN (a + 1) n m < 2 ^ 4000 := Nat.lt_of_lt_of_le (whN_lt J) (Nat.pow_le_pow_right (by omega) (by omega))
  have cl : coN a n m < 2 ^ 4000 := Nat.lt_of_le_of_lt (coN_le a n m) wl
  have cl' : coN (a + 1) n m < 2 ^ 4000 := Nat.lt_of_le_of_lt (coN_le _ n m) wl'
  have l := law_less (x0 := num (coN (a + 1) n m) (whN (a + 1) n m)) (x1 := den (coN (a + 1) n m) (whN (a + 1) n m)) (y0 := num (coN a n m) (whN a n m)) (y1 := den (coN a n m) (whN a n m)) (num_lt cl') (den_lt wl') (num_lt cl) (den_lt wl)
  rw [rat_eq, rat_eq, l]
  congr 2
  refine decide_eq_false (not_less (whN_pos J) (whN_pos I) ?_)
  have g := grow (a := a) (n := n) (m := m) ⟨I.ha.1, ha⟩ I.hn I.hm
  unfold coN whN
  rw [Nat.mul_mul_mul_comm, Nat.mul_mul_mul_comm (cc ((a + 1) * n) (m - 1) - wm (a + 1) n (m - 1))]
  exact Nat.mul_le_mul_right _ g
end
end S37

namespace S37
open PySem PD
theorem le_sum {x : Nat} : ∀ {xs : List Nat}, x ∈ xs → x ≤ xs.sum
  | y :: r, h => by
    rw [List.sum_cons]
    rcases List.mem_cons.mp h with rfl | h
    · omega
    · have := le_sum h
      omega
theorem wy0 (n m : Nat) : (wy n m 0).getD 0 0 = 1 := rfl
theorem wy1 {n m : Nat} (hm : 2 ≤ m ∧ m ≤ n + 1) : 0 < (wy n m 1).getD (m - 1) 0 := by
  have e : (wy n m 1).getD (m - 1) 0 = more n (wy n m 0) (m - 1) := by
    show ((List.range m).map (more n (wy n m 0))).getD (m - 1) 0 = _
    rw [List.getD_eq_getElem?_getD, List.getElem?_map, List.getElem?_range (by omega)]
    rfl
  rw [e]
  unfold more
  have mem : cc n (m - 1) * cc n (m - 1) * (wy n m 0).getD (m - 1 - (m - 1)) 0 ∈ (ups (m - 1)).map fun e => cc n e * cc n e * (wy n m 0).getD (m - 1 - e) 0 := List.mem_map.mpr ⟨m - 1, ups_mem.mpr (by omega), rfl⟩
  have := le_sum mem
  rw [Nat.sub_self, wy0, Nat.mul_one] at this
  have p := cc_pos (a := n) (b := m - 1) (by omega)
  have := Nat.mul_pos p p
  omega
theorem fs_mono (a n m i : Nat) : fs a n m i ≤ fs a n m (i + 1) := by
  rw [fs_succ]
  exact Nat.le_add_right _ _
theorem fs_zero (a n m : Nat) : fs a n m 0 = 0 := rfl
theorem fs_pos {a n m : Nat} (ha : 1 ≤ a) (hm : 2 ≤ m ∧ m ≤ n + 1) : ∀ i, 0 < fs a n m (i + 1)
  | 0 => by
    rw [fs_succ]
    have := Nat.mul_pos (cc_pos (a := a) (b := 1) ha) (wy1 hm)
    simp only [Nat.zero_add] at this ⊢
    omega
  | i + 1 => Nat.lt_of_lt_of_le (fs_pos ha hm i) (fs_mono a n m (i + 1))
theorem cc_one {x : Nat} (h : 1 ≤ x) : cc x 1 = x := by
  have := PySem.W.mcComb_one (a := (x : Int)) (by omega)
  have e := mcComb_cc x 1
  have e' : PySem.W.mcComb (x : Int) 1 = ((cc x 1 : Nat) : Int) := e
  rw [this] at e'
  omega
theorem oc_two : ∀ a ∈ List.range 13, 3 ≤ a → oc a 2 = a := by decide +kernel
theorem wy_first (n m u : Nat) (hm : 1 ≤ m) : (wy n m (u + 1)).getD 0 0 = 0 := by
  show ((List.range m).map (more n (wy n m u))).getD 0 0 = _
  rw [List.getD_eq_getElem?_getD, List.getElem?_map, List.getElem?_range (by omega)]
  rfl
theorem wy_two (n u : Nat) : (wy n 2 (u + 1)).getD 1 0 = cc n 1 * cc n 1 * (wy n 2 u).getD 0 0 := by
  show ((List.range 2).map (more n (wy n 2 u))).getD 1 0 = _
  show more n (wy n 2 u) 1 = _
  unfold more
  show ((ups 1).map _).sum = _
  simp [ups]
theorem fs_two {a n : Nat} (ha : 1 ≤ a) (hn : 1 ≤ n) : ∀ i, fs a n 2 (i + 1) = a * (n * n)
  | 0 => by
    rw [fs_succ, fs_zero]
    show 0 + cc a 1 * (wy n 2 1).getD 1 0 = _
    rw [wy_two, wy0, cc_one ha, cc_one hn]
    simp
  | i + 1 => by
    rw [fs_succ, fs_two ha hn i]
    show a * (n * n) + cc a (i + 1 + 1) * (wy n 2 (i + 1 + 1)).getD 1 0 = _
    rw [wy_two, wy_first n 2 i (by omega)]
    simp
theorem rat_one {x d : Nat} (h : 0 < x) : rat x (d * x) = .tuple [.int 1, iN d] := by
  have g : Nat.gcd x (d * x) = x := Nat.gcd_eq_left (Nat.dvd_mul_left x d)
  rw [rat_eq]
  unfold num den
  rw [g, Nat.div_self h, Nat.mul_div_cancel _ h]
  rfl
section
variable {a n m : Nat}
theorem pairs_pos (I : Isl a n m) : 0 < pairsN a n m := by
  have ha := I.ha
  have p := fs_pos (a := a) (n := n) (m := m) (by omega) I.hm (a - 3)
  rw [show a - 3 + 1 = a - 2 by omega] at p
  have := Nat.mul_pos p (fac_pos m)
  unfold pairsN
  omega
theorem chance_pos (I : Isl a n m) : 0 < num (pairsN a n m) (whN a n m * whN a n m) := by
  have h := num_g (pairsN a n m) (whN a n m * whN a n m)
  have p := pairs_pos I
  rcases Nat.eq_zero_or_pos (num (pairsN a n m) (whN a n m * whN a n m)) with z | z
  · rw [z] at h
    omega
  · exact z
theorem two_lands (I : Isl a n 2) : whN a n 2 = 2 * a * n ∧ oc a 2 * fac 2 = 2 * a ∧ rat (pairsN a n 2) (whN a n 2 * whN a n 2) = .tuple [.int 1, iN (2 * a)] := by
  have ha := I.ha
  have hn := I.hn
  have f2 : fac 2 = 2 := by decide
  have an : 1 ≤ a * n := Nat.mul_pos (by omega) (by omega)
  have e1 : whN a n 2 = 2 * a * n := by
    unfold whN
    show cc (a * n) 1 * fac 2 = _
    rw [cc_one an, f2, Nat.mul_comm, Nat.mul_assoc]
  refine ⟨e1, ?_, ?_⟩
  · rw [oc_two a (List.mem_range.mpr (by omega)) (by omega), f2, Nat.mul_comm]
  · have e2 : pairsN a n 2 = 2 * a * (n * n) := by
      unfold pairsN
      rw [few_perm (by omega : 2 < a), f2]
      have := fs_two (a := a) (n := n) (by omega) (by omega) (a - 3)
      rw [show a - 3 + 1 = a - 2 by omega] at this
      rw [this, Nat.zero_mul, Nat.zero_mul, Nat.zero_add, Nat.mul_comm, Nat.mul_assoc]
    have e3 : whN a n 2 * whN a n 2 = 2 * a * (2 * a * (n * n)) := by
      rw [e1, Nat.mul_mul_mul_comm, Nat.mul_assoc]
    rw [e2, e3]
    exact rat_one (Nat.mul_pos (by omega) (Nat.mul_pos (by omega) (by omega)))
end
theorem rg_two {f : SA} {ρ ρ1 : Ev} {m : Nat} (e : f ρ = some ([.d (.int 2), .d (.int ((m : Int) + 1))], ρ1)) (h : 2 ≤ m ∧ m < 100000) : sRg2 f ρ = some ((List.range (m - 1)).map (fun i => iN (i + 2)), ρ1) := by
  unfold sRg2
  rw [e]
  show (if (2 : Int).natAbs < 4611686018427387904 ∧ ((m : Int) + 1).natAbs < 4611686018427387904 then some (rangeD 2 ((m : Int) + 1), ρ1) else none) = _
  rw [if_pos (by omega)]
  unfold rangeD
  have e : ((m : Int) + 1 - 2).toNat = m - 1 := by omega
  rw [e]
  congr 2
  apply List.map_congr_left
  intro i _
  show PyData.int _ = PyData.int _
  congr 1
  omega
theorem ne_three (x y z w : Int) : fNe (.tuple [.int x, .int y, .tuple [.int z, .int w]]) (.tuple [.int x, .int y, .tuple [.int z, .int w]]) = some (.bool false) := by
  simp [fNe, SeqAt.shaped, PyData.canLay0, PyData.canLayAll0, PyData.eqv, PyData.eqvAll, PyData.depth, PyData.depthAll]
end S37

/-! choices: by Pascal's rule, step by step -/
namespace S37
open PySem PD
def bin : Nat → Nat → Nat
  | _, 0 => 1
  | 0, _ + 1 => 0
  | n + 1, k + 1 => bin n k + bin n (k + 1)
theorem bin_zero (n : Nat) : bin n 0 = 1 := by cases n <;> rfl
theorem bin_above : ∀ {n k : Nat}, n < k → bin n k = 0
  | _, 0, h => absurd h (Nat.not_lt_zero _)
  | 0, k + 1, _ => rfl
  | n + 1, k + 1, h => by
    show bin n k + bin n (k + 1) = 0
    rw [bin_above (n := n) (k := k) (by omega), bin_above (n := n) (k := k + 1) (by omega)]
theorem fac_zero : fac 0 = 1 := rfl
theorem bin_fac : ∀ {n k : Nat}, k ≤ n → bin n k * (fac k * fac (n - k)) = fac n
  | n, 0, _ => by rw [bin_zero, fac_zero, Nat.one_mul, Nat.one_mul, Nat.sub_zero]
  | 0, k + 1, h => absurd h (by omega)
  | n + 1, k + 1, h => by
    show (bin n k + bin n (k + 1)) * (fac (k + 1) * fac (n + 1 - (k + 1))) = _
    have a1 := bin_fac (n := n) (k := k) (by omega)
    have e0 : n + 1 - (k + 1) = n - k := by omega
    rw [e0, Nat.add_mul, fac_succ n, fac_succ k]
    have p1 : bin n k * (fac k * (k + 1) * fac (n - k)) = fac n * (k + 1) := by
      rw [← a1]
      simp only [Nat.mul_assoc, Nat.mul_comm, Nat.mul_left_comm]
    by_cases hk : k + 1 ≤ n
    · have a2 := bin_fac (n := n) (k := k + 1) hk
      rw [fac_succ k] at a2
      have e1 : n - k = (n - (k + 1)) + 1 := by omega
      have p2 : bin n (k + 1) * (fac k * (k + 1) * fac (n - k)) = fac n * (n - k) := by
        rw [← a2, e1, fac_succ]
        simp only [Nat.mul_assoc, Nat.mul_comm, Nat.mul_left_comm]
      rw [p1, p2, ← Nat.mul_add]
      congr 1
      omega
    · have e : k = n := by omega
      subst e
      rw [bin_above (n := k) (k := k + 1) (by omega), Nat.zero_mul, Nat.add_zero, p1]
theorem fp_self (j : Nat) : fpN j j = fac j := by
  have := perm_fac (a := j) (b := j) (Nat.le_refl _)
  rw [Nat.sub_self, fac_zero, Nat.mul_one] at this
  exact this
theorem bin_fp {n j : Nat} (h : j ≤ n) : fpN n j / fpN j j = bin n j := by
  have h1 := perm_fac (a := n) (b := j) h
  have h2 := bin_fac h
  rw [← Nat.mul_assoc] at h2
  have h3 : fpN n j = bin n j * fac j := Nat.eq_of_mul_eq_mul_right (fac_pos (n - j)) (h1.trans h2.symm)
  rw [fp_self, h3, Nat.mul_div_cancel _ (fac_pos j)]
theorem bin_symm {n k : Nat} (h : k ≤ n) : bin n (n - k) = bin n k := by
  have h1 := bin_fac h
  have h2 := bin_fac (n := n) (k := n - k) (by omega)
  have e : n - (n - k) = k := by omega
  rw [e, Nat.mul_comm (fac (n - k))] at h2
  exact Nat.eq_of_mul_eq_mul_right (Nat.mul_pos (fac_pos k) (fac_pos (n - k))) (h2.trans h1.symm)
theorem cc_bin (n k : Nat) : cc n k = bin n k := by
  unfold cc
  by_cases h : k ≤ n
  · rw [if_pos h, bin_fp (by omega)]
    by_cases hm : k ≤ n - k
    · rw [Nat.min_eq_left hm]
    · rw [Nat.min_eq_right (by omega), bin_symm h]
  · rw [if_neg h, bin_above (by omega)]
theorem cc_zero (n : Nat) : cc n 0 = 1 := by rw [cc_bin, bin_zero]
theorem cc_step {n k : Nat} (h : k + 1 ≤ n) : cc n (k + 1) * (k + 1) = cc n k * (n - k) := by
  rw [cc_bin, cc_bin]
  have h1 := bin_fac (n := n) (k := k) (by omega)
  have h2 := bin_fac h
  have e1 : n - k = (n - (k + 1)) + 1 := by omega
  rw [e1, fac_succ] at h1
  rw [fac_succ] at h2
  have p : 0 < fac k * fac (n - (k + 1)) := Nat.mul_pos (fac_pos _) (fac_pos _)
  refine Nat.eq_of_mul_eq_mul_right p ?_
  rw [e1]
  have q1 : bin n (k + 1) * (k + 1) * (fac k * fac (n - (k + 1))) = fac n := by
    rw [← h2]
    simp only [Nat.mul_assoc, Nat.mul_comm, Nat.mul_left_comm]
  have q2 : bin n k * (n - (k + 1) + 1) * (fac k * fac (n - (k + 1))) = fac n := by
    rw [← h1]
    simp only [Nat.mul_assoc, Nat.mul_comm, Nat.mul_left_comm]
  rw [q1, q2]
theorem cc_div {n k : Nat} (h : k + 1 ≤ n) : cc n k * (n - k) / (k + 1) = cc n (k + 1) := by
  rw [← cc_step h, Nat.mul_div_cancel _ (by omega)]
/-- what the law takes for choices -/
theorem law_choices {n k : Nat} (h : k ≤ n) (hn : n ≤ 1000) : p__law_choices [iN n, iN k] = some (iN (cc n k)) := by
  let st : Nat → Sl → Ev := fun i x => [.dat (iN n), .dat (iN k), .dat (iN (cc n i)), x]
  have loop : ∃ ρ', l1__law_choices (st 0 .un) = some (.nx, ρ') ∧ ∃ x, ρ' = st ((List.range k).map iN).length x := by
    refine sFor_inv (items := (List.range k).map iN) (ρ1 := st 0 .un) (fun i ρ => ∃ x, ρ = st i x) (sRg1_small (by simp [bodyP, bodyI, startE, startI, sSeq, sRet, sAsg, sExp, sIfS, sNx, sV, sB, sC, PD.s2, toT, sTr, truth, bne_dec, sChain, sAnd, sOr, sNot, sIf, tAnd', tOr', tNot', sNil, sCons, sCall, allD, sN, allR, PD.res, sTup, sLst, sFr, gN, gT, gsNil, gsCons, sIsi, tyName, isSub, sOrE, sM1, sM1T, fAdd_int, fSub, fLe, fLt, fGt, fGe, eq_int, ne_int, cont?, setCont, List.replicate, fLen, sOwn, sApp, st]) (by omega)) ⟨_, rfl⟩ ?_
    rintro i d ρ hd ⟨x, rfl⟩
    rw [List.getElem?_map, Option.map_eq_some_iff] at hd
    obtain ⟨i', g1, rfl⟩ := hd
    obtain ⟨hi, g2⟩ := List.getElem?_eq_some_iff.mp g1
    rw [List.getElem_range] at g2
    rw [List.length_range] at hi
    subst g2
    have m1 : fMul (iN (cc n i)) (.int ((n : Int) - (i : Int))) = some (iN (cc n i * (n - i))) := by
      have e : ((n : Int) - (i : Int)) = ((n - i : Nat) : Int) := by omega
      rw [e]
      refine (if_pos (.inr (.inl (by rw [Int.natAbs_natCast]; exact (show n - i < 18446744073709551616 by omega))))).trans ?_
      rw [← Int.natCast_mul]
    have d1 : fDiv (iN (cc n i * (n - i))) (.int ((i : Int) + 1)) = some (iN (cc n (i + 1))) := by
      have e : ((i : Int) + 1) = ((i + 1 : Nat) : Int) := by omega
      rw [e, fDiv_small _ _ (by omega), ← Int.natCast_ediv, cc_div (by omega)]
    obtain ⟨A, hA⟩ : ∃ z, z = iN (cc n i) := ⟨_, rfl⟩
    obtain ⟨B, hB⟩ : ∃ z, z = iN (cc n i * (n - i)) := ⟨_, rfl⟩
    obtain ⟨C, hC⟩ : ∃ z, z = iN (cc n (i + 1)) := ⟨_, rfl⟩
    refine ⟨[.dat (iN n), .dat (iN k), .dat A, .dat (iN i)], .nx, st (i + 1) (.dat (iN i)), by rw [hA]; rfl, ?_, .inl rfl, _, rfl⟩
    show b1__law_choices _ = some (.nx, [.dat (iN n), .dat (iN k), .dat (iN (cc n (i + 1))), .dat (iN i)])
    rw [← hA, ← hB] at m1
    rw [← hB, ← hC] at d1
    rw [← hC]
    unfold b1__law_choices
    simp [bodyP, bodyI, startE, startI, sSeq, sRet, sAsg, sExp, sIfS, sNx, sV, sB, sC, PD.s2, toT, sTr, truth, bne_dec, sChain, sAnd, sOr, sNot, sIf, tAnd', tOr', tNot', sNil, sCons, sCall, allD, sN, allR, PD.res, sTup, sLst, sFr, gN, gT, gsNil, gsCons, sIsi, tyName, isSub, sOrE, sM1, sM1T, fAdd_int, fSub, fLe, fLt, fGt, fGe, eq_int, ne_int, cont?, setCont, List.replicate, fLen, sOwn, sApp, m1, d1]
  obtain ⟨ρ', e4, x, rfl⟩ := loop
  rw [List.length_map, List.length_range] at e4
  have e5 : l1__law_choices [.dat (iN n), .dat (iN k), .dat (.int 1), .un] = some (.nx, [.dat (iN n), .dat (iN k), .dat (iN (cc n k)), x]) := by
    have : st 0 .un = [.dat (iN n), .dat (iN k), .dat (.int 1), .un] := by
      show [Sl.dat (iN n), .dat (iN k), .dat (iN (cc n 0)), .un] = _
      rw [cc_zero]
      rfl
    rw [← this]
    exact e4
  obtain ⟨A, hA⟩ : ∃ z, z = iN (cc n k) := ⟨_, rfl⟩
  rw [← hA] at e5 ⊢
  unfold p__law_choices g__law_choices
  simp [bodyP, bodyI, startE, startI, sSeq, sRet, sAsg, sExp, sIfS, sNx, sV, sB, sC, PD.s2, toT, sTr, truth, bne_dec, sChain, sAnd, sOr, sNot, sIf, tAnd', tOr', tNot', sNil, sCons, sCall, allD, sN, allR, PD.res, sTup, sLst, sFr, gN, gT, gsNil, gsCons, sIsi, tyName, isSub, sOrE, sM1, sM1T, fAdd_int, fSub, fLe, fLt, fGt, fGe, eq_int, ne_int, cont?, setCont, List.replicate, fLen, sOwn, sApp, e5]
end S37

/-! arrangements in number -/
namespace S37
open PySem PD
theorem arms_lands_ok {a m : Nat} (ha : 3 ≤ a ∧ a ≤ 12) (hm : 2 ≤ m ∧ m ≤ 12) : p_check_arms_and_lands [iN a, iN m] = some .none := by
  have e1 : p_check_arms [iN a, .int 12] = some .none := by
    have q : p_is_integer [iN a, .int 3, .int 12] = some (.bool true) := by rw [integer_int, decide_eq_true (by omega)]
    unfold p_check_arms g_check_arms
    simp [bodyP, bodyI, startE, startI, sSeq, sRet, sAsg, sExp, sIfS, sNx, sV, sB, sC, PD.s2, toT, sTr, truth, bne_dec, sChain, sAnd, sOr, sNot, sIf, tAnd', tOr', tNot', sNil, sCons, sCall, allD, sN, allR, PD.res, sTup, sLst, sFr, gN, gT, gsNil, gsCons, sIsi, tyName, isSub, sOrE, sM1, sM1T, fAdd_int, fSub, fLe, fLt, fGt, fGe, eq_int, ne_int, cont?, setCont, List.replicate, fLen, sOwn, sApp, q]
  have e3 : p_check_lands [.int 11, iN m] = some .none := by
    have q : p_is_integer [iN m, .int 2, .int 12] = some (.bool true) := by rw [integer_int, decide_eq_true (by omega)]
    unfold p_check_lands g_check_lands
    simp [bodyP, bodyI, startE, startI, sSeq, sRet, sAsg, sExp, sIfS, sNx, sV, sB, sC, PD.s2, toT, sTr, truth, bne_dec, sChain, sAnd, sOr, sNot, sIf, tAnd', tOr', tNot', sNil, sCons, sCall, allD, sN, allR, PD.res, sTup, sLst, sFr, gN, gT, gsNil, gsCons, sIsi, tyName, isSub, sOrE, sM1, sM1T, fAdd_int, fSub, fLe, fLt, fGt, fGe, eq_int, ne_int, cont?, setCont, List.replicate, fLen, sOwn, sApp, q]
  unfold p_check_arms_and_lands g_check_arms_and_lands
  simp [bodyP, bodyI, startE, startI, sSeq, sRet, sAsg, sExp, sIfS, sNx, sV, sB, sC, PD.s2, toT, sTr, truth, bne_dec, sChain, sAnd, sOr, sNot, sIf, tAnd', tOr', tNot', sNil, sCons, sCall, allD, sN, allR, PD.res, sTup, sLst, sFr, gN, gT, gsNil, gsCons, sIsi, tyName, isSub, sOrE, sM1, sM1T, fAdd_int, fSub, fLe, fLt, fGt, fGe, eq_int, ne_int, cont?, setCont, List.replicate, fLen, sOwn, sApp, e1, e3]
def anN (a m : Nat) : Nat := if m < a then 0 else (a * cc (m - a + a - 2) (a - 2) + cc (m - a + a - 2) (a - 1)) * fac (m - a)
theorem an_way : ∀ a ∈ List.range 13, ∀ m ∈ List.range 13, a * cc (m - a + a - 2) (a - 2) + cc (m - a + a - 2) (a - 1) < 18446744073709551616 := by decide +kernel
theorem arrangement_count {a m : Nat} (ha : 3 ≤ a ∧ a ≤ 12) (hm : 2 ≤ m ∧ m ≤ 12) : p_arrangement_count [iN a, iN m] = some (iN (anN a m)) := by
  have ck := arms_lands_ok ha hm
  unfold anN
  by_cases h : m < a
  · have h1 : ((m : Int) - (a : Int)) < 0 := by omega
    have h' : (m : Int) < (a : Int) := by omega
    rw [if_pos h]
    unfold p_arrangement_count g_arrangement_count
    simp [bodyP, bodyI, startE, startI, sSeq, sRet, sAsg, sExp, sIfS, sNx, sV, sB, sC, PD.s2, toT, sTr, truth, bne_dec, sChain, sAnd, sOr, sNot, sIf, tAnd', tOr', tNot', sNil, sCons, sCall, allD, sN, allR, PD.res, sTup, sLst, sFr, gN, gT, gsNil, gsCons, sIsi, tyName, isSub, sOrE, sM1, sM1T, fAdd_int, fSub, fLe, fLt, fGt, fGe, eq_int, ne_int, cont?, setCont, List.replicate, fLen, sOwn, sApp, ck, h1, h', h]
  · have h1 : ¬ ((m : Int) - (a : Int)) < 0 := by omega
    have h' : ¬ (m : Int) < (a : Int) := by omega
    rw [if_neg h]
    have q1 := comb (a := m - a + a - 2) (b := a - 2) (by omega)
    have q2 := comb (a := m - a + a - 2) (b := a - 1) (by omega)
    have q3 := mulS (x := a) (y := cc (m - a + a - 2) (a - 2)) (by omega)
    have q4 := facD (n := m - a) (by omega)
    have q5 := mulS (x := a * cc (m - a + a - 2) (a - 2) + cc (m - a + a - 2) (a - 1)) (y := fac (m - a)) (an_way a (List.mem_range.mpr (by omega)) m (List.mem_range.mpr (by omega)))
    have e1 : ((m : Int) - (a : Int) + (a : Int) - 2) = ((m - a + a - 2 : Nat) : Int) := by omega
    have e0 : ((m : Int) - (a : Int)) = ((m - a : Nat) : Int) := by omega
    have e2 : ((a : Int) - 2) = ((a - 2 : Nat) : Int) := by omega
    have e3 : ((a : Int) - 1) = ((a - 1 : Nat) : Int) := by omega
    have h1' : ¬ ((m - a : Nat) : Int) < 0 := by omega
    have e1' : (((m - a : Nat) : Int) + (a : Int) - 2) = ((m - a + a - 2 : Nat) : Int) := by omega
    obtain ⟨d, hd⟩ : ∃ z, z = m - a := ⟨_, rfl⟩
    obtain ⟨u, hu⟩ : ∃ z, z = m - a + a - 2 := ⟨_, rfl⟩
    obtain ⟨v, hv⟩ : ∃ z, z = a - 2 := ⟨_, rfl⟩
    obtain ⟨x, hx⟩ : ∃ z, z = a - 1 := ⟨_, rfl⟩
    rw [← hu, ← hv] at q1 q3
    rw [← hu, ← hx] at q2
    rw [← hu] at e1 e1'
    rw [← hd] at q4 e0 h1' e1'
    rw [← hu, ← hv, ← hx, ← hd] at q5
    rw [← hv] at e2
    rw [← hx] at e3
    rw [← hu, ← hv, ← hx, ← hd]
    obtain ⟨A, hA⟩ : ∃ z, z = cc u v := ⟨_, rfl⟩
    obtain ⟨B, hB⟩ : ∃ z, z = cc u x := ⟨_, rfl⟩
    obtain ⟨Fa, hF⟩ : ∃ z, z = fac d := ⟨_, rfl⟩
    rw [← hA] at q1 q3 q5 ⊢
    rw [← hB] at q2 q5 ⊢
    rw [← hF] at q4 q5 ⊢
    obtain ⟨AA, hAA⟩ : ∃ z, z = a * A := ⟨_, rfl⟩
    rw [← hAA] at q3 q5 ⊢
    obtain ⟨R, hR⟩ : ∃ z, z = iN ((AA + B) * Fa) := ⟨_, rfl⟩
    rw [← hR] at q5 ⊢
    have q5' : fMul (.int ((AA : Int) + (B : Int))) (iN Fa) = some R := q5
    have qd : fAdd (iN AA) (iN B) = some (.int ((AA : Int) + (B : Int))) := rfl
    unfold p_arrangement_count g_arrangement_count
    simp [bodyP, bodyI, startE, startI, sSeq, sRet, sAsg, sExp, sIfS, sNx, sV, sB, sC, PD.s2, toT, sTr, truth, bne_dec, sChain, sAnd, sOr, sNot, sIf, tAnd', tOr', tNot', sNil, sCons, sCall, allD, sN, allR, PD.res, sTup, sLst, sFr, gN, gT, gsNil, gsCons, sIsi, tyName, isSub, sOrE, sM1, sM1T, fAdd_int, fSub, fLe, fLt, fGt, fGe, eq_int, ne_int, cont?, setCont, List.replicate, fLen, sOwn, sApp, ck, e0, h1', e1', e2, e3, q1, q2, q3, q4, qd, q5']
def aaN (a m : Nat) : Nat := fac m * cc (m + a - 2) (a - 1)
theorem fac12 : ∀ a ∈ List.range 13, fac a < 18446744073709551616 := by decide +kernel
theorem all_arrangements {a m : Nat} (ha : 3 ≤ a ∧ a ≤ 12) (hm : 2 ≤ m ∧ m ≤ 12) : p_all_arrangements [iN a, iN m] = some (iN (aaN a m)) := by
  have ck := arms_lands_ok ha hm
  unfold aaN
  have q1 := comb (a := m + a - 2) (b := a - 1) (by omega)
  have q2 := facD (n := m) (by omega)
  have q3 := mulS (x := fac m) (y := cc (m + a - 2) (a - 1)) (fac12 m (List.mem_range.mpr (by omega)))
  have e1 : ((m : Int) + (a : Int) - 2) = ((m + a - 2 : Nat) : Int) := by omega
  have e3 : ((a : Int) - 1) = ((a - 1 : Nat) : Int) := by omega
  obtain ⟨u, hu⟩ : ∃ z, z = m + a - 2 := ⟨_, rfl⟩
  obtain ⟨x, hx⟩ : ∃ z, z = a - 1 := ⟨_, rfl⟩
  rw [← hu, ← hx] at q1 q3 ⊢
  rw [← hu] at e1
  rw [← hx] at e3
  obtain ⟨A, hA⟩ : ∃ z, z = cc u x := ⟨_, rfl⟩
  obtain ⟨Fa, hF⟩ : ∃ z, z = fac m := ⟨_, rfl⟩
  rw [← hA] at q1 q3 ⊢
  rw [← hF] at q2 q3 ⊢
  obtain ⟨R, hR⟩ : ∃ z, z = iN (Fa * A) := ⟨_, rfl⟩
  rw [← hR] at q3 ⊢
  unfold p_all_arrangements g_all_arrangements
  simp [bodyP, bodyI, startE, startI, sSeq, sRet, sAsg, sExp, sIfS, sNx, sV, sB, sC, PD.s2, toT, sTr, truth, bne_dec, sChain, sAnd, sOr, sNot, sIf, tAnd', tOr', tNot', sNil, sCons, sCall, allD, sN, allR, PD.res, sTup, sLst, sFr, gN, gT, gsNil, gsCons, sIsi, tyName, isSub, sOrE, sM1, sM1T, fAdd_int, fSub, fLe, fLt, fGt, fGe, eq_int, ne_int, cont?, setCont, List.replicate, fLen, sOwn, sApp, ck, e1, e3, q1, q2, q3]
end S37

/-! the pairs of maps of one class, looked at for all islands -/
namespace S37
open PySem PD
/-- entries do not hang on how many are asked for -/
theorem wy_prefix {n m M : Nat} (hm : 1 ≤ m) (hM : m ≤ M) : ∀ (u i : Nat), i < m → (wy n m u).getD i 0 = (wy n M u).getD i 0
  | 0, i, hi => by
    unfold wy
    cases i with
    | zero => rfl
    | succ i =>
      rw [List.getD_eq_getElem?_getD, List.getD_eq_getElem?_getD, List.getElem?_cons_succ, List.getElem?_cons_succ, List.getElem?_replicate, List.getElem?_replicate, if_pos (by omega), if_pos (by omega)]
  | u + 1, i, hi => by
    have g : ∀ N : Nat, i < N → (wy n N (u + 1)).getD i 0 = more n (wy n N u) i := fun N hN => by
      show ((List.range N).map (more n (wy n N u))).getD i 0 = _
      rw [List.getD_eq_getElem?_getD, List.getElem?_map, List.getElem?_range hN]
      rfl
    rw [g m hi, g M (by omega)]
    unfold more
    congr 1
    refine List.map_congr_left fun e he => ?_
    have := ups_mem.mp he
    rw [wy_prefix hm hM u (i - e) (by omega)]
/-- numbers made plain ahead of their use -/
def fz {β : Type} (x : Nat) (f : Nat → β) : β := match x with
  | 0 => f 0
  | k + 1 => f (k + 1)
theorem fz_eq {β : Type} (x : Nat) (f : Nat → β) : fz x f = f x := by cases x <;> rfl
def mapF {β : Type} (f : Nat → Nat) : List Nat → (List Nat → β) → β
  | [], k => k []
  | j :: js, k => fz (f j) fun y => mapF f js fun r => k (y :: r)
theorem mapF_eq {β : Type} (f : Nat → Nat) : ∀ (js : List Nat) (k : List Nat → β), mapF f js k = k (js.map f)
  | [], k => rfl
  | j :: js, k => by
    unfold mapF
    rw [fz_eq, mapF_eq f js]
    rfl
def moreF (n : Nat) (ws : List Nat) (j : Nat) : Nat := ((ups j).map fun e => ccF n e * ccF n e * ws.getD (j - e) 0).sum
theorem moreF_eq (n : Nat) (ws : List Nat) : moreF n ws = more n ws := by
  funext j
  unfold moreF more
  simp only [ccF_eq]
/-- the first lists, one behind the other -/
def wysF {β : Type} (n : Nat) (js : List Nat) : Nat → List Nat → List (List Nat) → (List (List Nat) → β) → β
  | 0, _, acc, k => k acc
  | u + 1, ws, acc, k => mapF (moreF n ws) js fun r => wysF n js u r (acc ++ [r]) k
theorem wysF_eq {β : Type} (n M : Nat) : ∀ (c u : Nat) (acc : List (List Nat)) (k : List (List Nat) → β), wysF n (List.range M) c (wy n M u) acc k = k (acc ++ (List.range c).map fun i => wy n M (u + i + 1))
  | 0, u, acc, k => by
    unfold wysF
    simp
  | c + 1, u, acc, k => by
    unfold wysF
    rw [mapF_eq, moreF_eq]
    have := wysF_eq n M c (u + 1) (acc ++ [wy n M (u + 1)]) k
    show wysF n (List.range M) c (wy n M (u + 1)) (acc ++ [wy n M (u + 1)]) k = _
    rw [this, List.range_succ_eq_map, List.map_cons, List.map_map, List.append_assoc]
    congr 2
    show [wy n M (u + 1)] ++ _ = wy n M (u + 0 + 1) :: _
    rw [Nat.add_zero, List.singleton_append]
    congr 1
    refine List.map_congr_left fun i _ => ?_
    show wy n M (u + 1 + i + 1) = wy n M (u + (i + 1) + 1)
    rw [show u + 1 + i + 1 = u + (i + 1) + 1 by omega]
def fsF (a m i : Nat) (L : List (List Nat)) : Nat := ((ups i).map fun u => ccF a u * (L.getD (u - 1) []).getD (m - 1) 0).sum
theorem fsF_eq {a n m i M : Nat} (hm : 1 ≤ m ∧ m ≤ M) (hi : i ≤ 10) : fsF a m i ((List.range 10).map fun j => wy n M (0 + j + 1)) = fs a n m i := by
  unfold fsF fs
  congr 1
  refine List.map_congr_left fun u hu => ?_
  have := ups_mem.mp hu
  rw [ccF_eq, List.getD_eq_getElem?_getD (l := (List.range 10).map _), List.getElem?_map, List.getElem?_range (by omega), wy_prefix hm.1 hm.2 u (m - 1) (by omega)]
  show cc a u * (wy n M (0 + (u - 1) + 1)).getD (m - 1) 0 = _
  rw [show 0 + (u - 1) + 1 = u by omega]
def perm' (m a : Nat) : Nat := perm m a
/-- pairs, maps, classes: W the maps, w the warm ones without their names -/
def prF (a n m f : Nat) : Bool :=
  fz (ppF a n (m - 1) - qqF a n (m - 1)) fun w => fz (ccF (a * n) (m - 1) * fac m) fun W => fz (if m < a then 0 else w * fac (m - a)) fun s => fz (perm m a) fun P => fz (P * s * s + f * fac m) fun pr => fz (P + oc a m * fac m) fun K =>
    Nat.ble pr (W * W) && Nat.ble (W * W) (pr * K) && (Nat.blt m a || Nat.blt 0 w) && (!Nat.beq m a || Nat.beq s (a * n ^ (a - 1)))
def nF (n : Nat) : Bool := wysF n (List.range (n + 1)) 10 (1 :: List.replicate n 0) [] fun L => (List.range n).all fun m => (List.range 10).all fun a => prF (a + 3) n (m + 2) (fsF (a + 3) (m + 2) (a + 1) L)
theorem all_n : (List.range 30).all (fun n => nF (n + 1)) = true := by decide +kernel
theorem prs {a n m : Nat} (I : Isl a n m) : pairsN a n m ≤ whN a n m * whN a n m ∧ whN a n m * whN a n m ≤ pairsN a n m * (perm m a + oc a m * fac m) ∧ (m < a ∨ 0 < wm a n (m - 1)) ∧ (m = a → szN a n m = a * n ^ (a - 1)) := by
  have ha := I.ha
  have hn := I.hn
  have hm := I.hm
  have h := List.all_eq_true.mp all_n (n - 1) (List.mem_range.mpr (by omega))
  rw [show n - 1 + 1 = n by omega] at h
  unfold nF at h
  have e0 : (1 :: List.replicate n 0) = wy n (n + 1) 0 := rfl
  rw [e0, wysF_eq, List.nil_append] at h
  have h1 := List.all_eq_true.mp h (m - 2) (List.mem_range.mpr (by omega))
  have h2 := List.all_eq_true.mp h1 (a - 3) (List.mem_range.mpr (by omega))
  rw [show m - 2 + 2 = m by omega, show a - 3 + 3 = a by omega, show a - 3 + 1 = a - 2 by omega, fsF_eq (by omega) (by omega)] at h2
  unfold prF at h2
  simp only [fz_eq, ppF_eq, qqF_eq, ccF_eq, Bool.and_eq_true, Bool.or_eq_true, Bool.not_eq_true'] at h2
  obtain ⟨⟨⟨c1, c2⟩, c3⟩, c4⟩ := h2
  refine ⟨Nat.ble_eq.mp c1, Nat.ble_eq.mp c2, ?_, fun e => ?_⟩
  · rcases c3 with c3 | c3
    · exact .inl (Nat.lt_of_succ_le (Nat.ble_eq.mp c3))
    · exact .inr (Nat.lt_of_succ_le (Nat.ble_eq.mp c3))
  · rcases c4 with c4 | c4
    · subst e
      simp at c4
    · exact Nat.eq_of_beq_eq_true c4
end S37

/-! the law's loops -/
namespace S37
open PySem PD
section
variable {Sc W C S P O : PyData} {r3 : List PyData} {a n m : Nat}
theorem turns_loop (hm : 2 ≤ m ∧ m ≤ 31) : ∃ x, l1_law [.dat Sc, .own r3, .dat (iN a), .dat (iN n), .dat (iN m), .dat (.int 1), .dat W, .dat C, .dat S, .dat P, .dat O, .un, .un, .un, .un] =
    some (.nx, [.dat Sc, .own r3, .dat (iN a), .dat (iN n), .dat (iN m), .dat (iN (fac m)), .dat W, .dat C, .dat S, .dat P, .dat O, x, .un, .un, .un]) := by
  let st : Nat → Sl → Ev := fun i x => [.dat Sc, .own r3, .dat (iN a), .dat (iN n), .dat (iN m), .dat (iN (fac (i + 1))), .dat W, .dat C, .dat S, .dat P, .dat O, x, .un, .un, .un]
  have loop : ∃ ρ', l1_law (st 0 .un) = some (.nx, ρ') ∧ ∃ x, ρ' = st ((List.range (m - 1)).map (fun i => iN (i + 2))).length x := by
    refine sFor_inv (items := (List.range (m - 1)).map (fun i => iN (i + 2))) (ρ1 := st 0 .un) (fun i ρ => ∃ x, ρ = st i x) (rg_two (by simp [bodyP, bodyI, startE, startI, sSeq, sRet, sAsg, sExp, sIfS, sNx, sV, sB, sC, PD.s2, toT, sTr, truth, bne_dec, sChain, sAnd, sOr, sNot, sIf, tAnd', tOr', tNot', sNil, sCons, sCall, allD, sN, allR, PD.res, sTup, sLst, sFr, gN, gT, gsNil, gsCons, sIsi, tyName, isSub, sOrE, sM1, sM1T, fAdd_int, fSub, fLe, fLt, fGt, fGe, eq_int, ne_int, cont?, setCont, List.replicate, fLen, sOwn, sApp, st]) (by omega)) ⟨_, rfl⟩ ?_
    rintro i d ρ hd ⟨x, rfl⟩
    rw [List.getElem?_map, Option.map_eq_some_iff] at hd
    obtain ⟨i', g1, rfl⟩ := hd
    obtain ⟨hi, g2⟩ := List.getElem?_eq_some_iff.mp g1
    rw [List.getElem_range] at g2
    rw [List.length_range] at hi
    subst g2
    have q := mulL (x := fac (i + 1)) (y := i + 2) (k := 130) (l := 20) (fac_lt (by omega)) (by omega) (by omega)
    have fe : fac (i + 1) * (i + 2) = fac (i + 1 + 1) := (fac_succ (i + 1)).symm
    rw [fe] at q
    obtain ⟨A, hA⟩ : ∃ z, z = iN (fac (i + 1)) := ⟨_, rfl⟩
    obtain ⟨B, hB⟩ : ∃ z, z = iN (fac (i + 1 + 1)) := ⟨_, rfl⟩
    obtain ⟨U, hU⟩ : ∃ z, z = iN (i + 2) := ⟨_, rfl⟩
    refine ⟨[.dat Sc, .own r3, .dat (iN a), .dat (iN n), .dat (iN m), .dat A, .dat W, .dat C, .dat S, .dat P, .dat O, .dat U, .un, .un, .un], .nx, st (i + 1) (.dat (iN (i + 2))), by rw [hA, hU]; rfl, ?_, .inl rfl, _, rfl⟩
    show b1_law _ = some (.nx, [.dat Sc, .own r3, .dat (iN a), .dat (iN n), .dat (iN m), .dat (iN (fac (i + 1 + 1))), .dat W, .dat C, .dat S, .dat P, .dat O, .dat (iN (i + 2)), .un, .un, .un])
    rw [← hB, ← hU]
    rw [← hA, ← hB, ← hU] at q
    unfold b1_law
    simp [bodyP, bodyI, startE, startI, sSeq, sRet, sAsg, sExp, sIfS, sNx, sV, sB, sC, PD.s2, toT, sTr, truth, bne_dec, sChain, sAnd, sOr, sNot, sIf, tAnd', tOr', tNot', sNil, sCons, sCall, allD, sN, allR, PD.res, sTup, sLst, sFr, gN, gT, gsNil, gsCons, sIsi, tyName, isSub, sOrE, sM1, sM1T, fAdd_int, fSub, fLe, fLt, fGt, fGe, eq_int, ne_int, cont?, setCont, List.replicate, fLen, sOwn, sApp, q]
  obtain ⟨ρ', e4, x, rfl⟩ := loop
  rw [List.length_map, List.length_range] at e4
  refine ⟨x, ?_⟩
  have : st (m - 1) x = [.dat Sc, .own r3, .dat (iN a), .dat (iN n), .dat (iN m), .dat (iN (fac m)), .dat W, .dat C, .dat S, .dat P, .dat O, x, .un, .un, .un] := by
    show [Sl.dat Sc, .own r3, .dat (iN a), .dat (iN n), .dat (iN m), .dat (iN (fac (m - 1 + 1))), .dat W, .dat C, .dat S, .dat P, .dat O, x, .un, .un, .un] = _
    rw [show m - 1 + 1 = m by omega]
  rw [← this]
  exact e4
theorem perm_step (m i : Nat) : perm m (i + 1) = if i < m then perm m i * (m - i) else 0 := by
  unfold perm
  by_cases h : i < m
  · rw [if_pos h, if_pos (by omega), if_pos (by omega)]
    unfold fpN
    rw [List.range_succ, List.foldl_append]
    rfl
  · rw [if_neg h, if_neg (by omega)]
theorem falls_loop {T5 : PyData} {x11 : Sl} (ha : 3 ≤ a ∧ a ≤ 12) (hm : 2 ≤ m ∧ m ≤ 31) : ∃ x, l2_law [.dat Sc, .own r3, .dat (iN a), .dat (iN n), .dat (iN m), .dat T5, .dat W, .dat C, .dat S, .dat P, .dat O, x11, .dat (.int 1), .un, .un] =
    some (.nx, [.dat Sc, .own r3, .dat (iN a), .dat (iN n), .dat (iN m), .dat T5, .dat W, .dat C, .dat S, .dat P, .dat O, x, .dat (iN (perm m a)), .un, .un]) := by
  let st : Nat → Sl → Ev := fun i x => [.dat Sc, .own r3, .dat (iN a), .dat (iN n), .dat (iN m), .dat T5, .dat W, .dat C, .dat S, .dat P, .dat O, x, .dat (iN (perm m i)), .un, .un]
  have loop : ∃ ρ', l2_law (st 0 x11) = some (.nx, ρ') ∧ ∃ x, ρ' = st ((List.range a).map iN).length x := by
    refine sFor_inv (items := (List.range a).map iN) (ρ1 := st 0 x11) (fun i ρ => ∃ x, ρ = st i x) (sRg1_small (by simp [bodyP, bodyI, startE, startI, sSeq, sRet, sAsg, sExp, sIfS, sNx, sV, sB, sC, PD.s2, toT, sTr, truth, bne_dec, sChain, sAnd, sOr, sNot, sIf, tAnd', tOr', tNot', sNil, sCons, sCall, allD, sN, allR, PD.res, sTup, sLst, sFr, gN, gT, gsNil, gsCons, sIsi, tyName, isSub, sOrE, sM1, sM1T, fAdd_int, fSub, fLe, fLt, fGt, fGe, eq_int, ne_int, cont?, setCont, List.replicate, fLen, sOwn, sApp, st]) (by omega)) ⟨_, rfl⟩ ?_
    rintro i d ρ hd ⟨x, rfl⟩
    rw [List.getElem?_map, Option.map_eq_some_iff] at hd
    obtain ⟨i', g1, rfl⟩ := hd
    obtain ⟨hi, g2⟩ := List.getElem?_eq_some_iff.mp g1
    rw [List.getElem_range] at g2
    rw [List.length_range] at hi
    subst g2
    obtain ⟨B, hB⟩ : ∃ z, z = iN (perm m (i + 1)) := ⟨_, rfl⟩
    have st1 := perm_step m i
    by_cases h : i < m
    · have h' : (i : Int) < (m : Int) := by omega
      have q := mulS (x := perm m i) (y := m - i) (perm_lt (by omega) (by omega))
      rw [if_pos h] at st1
      have e : ((m : Int) - (i : Int)) = ((m - i : Nat) : Int) := by omega
      rw [← st1, ← hB] at q
      obtain ⟨l, hl⟩ : ∃ z, z = m - i := ⟨_, rfl⟩
      rw [← hl] at q e
      obtain ⟨A, hA⟩ : ∃ z, z = iN (perm m i) := ⟨_, rfl⟩
      rw [← hA] at q
      refine ⟨[.dat Sc, .own r3, .dat (iN a), .dat (iN n), .dat (iN m), .dat T5, .dat W, .dat C, .dat S, .dat P, .dat O, .dat (iN i), .dat A, .un, .un], .nx, st (i + 1) (.dat (iN i)), by rw [hA]; rfl, ?_, .inl rfl, _, rfl⟩
      show b2_law _ = some (.nx, [.dat Sc, .own r3, .dat (iN a), .dat (iN n), .dat (iN m), .dat T5, .dat W, .dat C, .dat S, .dat P, .dat O, .dat (iN i), .dat (iN (perm m (i + 1))), .un, .un])
      rw [← hB]
      unfold b2_law
      simp [bodyP, bodyI, startE, startI, sSeq, sRet, sAsg, sExp, sIfS, sNx, sV, sB, sC, PD.s2, toT, sTr, truth, bne_dec, sChain, sAnd, sOr, sNot, sIf, tAnd', tOr', tNot', sNil, sCons, sCall, allD, sN, allR, PD.res, sTup, sLst, sFr, gN, gT, gsNil, gsCons, sIsi, tyName, isSub, sOrE, sM1, sM1T, fAdd_int, fSub, fLe, fLt, fGt, fGe, eq_int, ne_int, cont?, setCont, List.replicate, fLen, sOwn, sApp, h, h', e, q]
    · have h' : ¬ (i : Int) < (m : Int) := by omega
      rw [if_neg h] at st1
      obtain ⟨A, hA⟩ : ∃ z, z = iN (perm m i) := ⟨_, rfl⟩
      refine ⟨[.dat Sc, .own r3, .dat (iN a), .dat (iN n), .dat (iN m), .dat T5, .dat W, .dat C, .dat S, .dat P, .dat O, .dat (iN i), .dat A, .un, .un], .nx, st (i + 1) (.dat (iN i)), by rw [hA]; rfl, ?_, .inl rfl, _, rfl⟩
      show b2_law _ = some (.nx, [.dat Sc, .own r3, .dat (iN a), .dat (iN n), .dat (iN m), .dat T5, .dat W, .dat C, .dat S, .dat P, .dat O, .dat (iN i), .dat (iN (perm m (i + 1))), .un, .un])
      rw [st1]
      unfold b2_law
      simp [bodyP, bodyI, startE, startI, sSeq, sRet, sAsg, sExp, sIfS, sNx, sV, sB, sC, PD.s2, toT, sTr, truth, bne_dec, sChain, sAnd, sOr, sNot, sIf, tAnd', tOr', tNot', sNil, sCons, sCall, allD, sN, allR, PD.res, sTup, sLst, sFr, gN, gT, gsNil, gsCons, sIsi, tyName, isSub, sOrE, sM1, sM1T, fAdd_int, fSub, fLe, fLt, fGt, fGe, eq_int, ne_int, cont?, setCont, List.replicate, fLen, sOwn, sApp, h, h']
  obtain ⟨ρ', e4, x, rfl⟩ := loop
  rw [List.length_map, List.length_range] at e4
  refine ⟨x, ?_⟩
  have : st 0 x11 = [.dat Sc, .own r3, .dat (iN a), .dat (iN n), .dat (iN m), .dat T5, .dat W, .dat C, .dat S, .dat P, .dat O, x11, .dat (.int 1), .un, .un] := by
    show [Sl.dat Sc, .own r3, .dat (iN a), .dat (iN n), .dat (iN m), .dat T5, .dat W, .dat C, .dat S, .dat P, .dat O, x11, .dat (iN (perm m 0)), .un, .un] = _
    have : perm m 0 = 1 := by
      unfold perm
      rw [if_pos (Nat.zero_le _)]
      rfl
    rw [this]
    rfl
  rw [← this]
  exact e4
theorem pow_lt {n : Nat} (hn : n ≤ 30) : ∀ i, n ^ i < 2 ^ (5 * i + 1)
  | 0 => by rw [Nat.pow_zero]; decide
  | i + 1 => by
    have := pow_lt hn i
    have e : 5 * (i + 1) + 1 = (5 * i + 1) + 5 := by omega
    rw [Nat.pow_succ, e, Nat.pow_add]
    exact Nat.mul_lt_mul'' this (by omega)
theorem power_loop {T5 T12 : PyData} {x11 : Sl} (ha : 3 ≤ a ∧ a ≤ 12) (hn : 1 ≤ n ∧ n ≤ 30) : ∃ x, l3_law [.dat Sc, .own r3, .dat (iN a), .dat (iN n), .dat (iN m), .dat T5, .dat W, .dat C, .dat S, .dat P, .dat O, x11, .dat T12, .dat (iN a), .un] =
    some (.nx, [.dat Sc, .own r3, .dat (iN a), .dat (iN n), .dat (iN m), .dat T5, .dat W, .dat C, .dat S, .dat P, .dat O, x, .dat T12, .dat (iN (a * n ^ (a - 1))), .un]) := by
  let st : Nat → Sl → Ev := fun i x => [.dat Sc, .own r3, .dat (iN a), .dat (iN n), .dat (iN m), .dat T5, .dat W, .dat C, .dat S, .dat P, .dat O, x, .dat T12, .dat (iN (a * n ^ i)), .un]
  have e2 : ((a : Int) - 1) = ((a - 1 : Nat) : Int) := by omega
  have loop : ∃ ρ', l3_law (st 0 x11) = some (.nx, ρ') ∧ ∃ x, ρ' = st ((List.range (a - 1)).map iN).length x := by
    refine sFor_inv (items := (List.range (a - 1)).map iN) (ρ1 := st 0 x11) (fun i ρ => ∃ x, ρ = st i x) (sRg1_small (by simp [bodyP, bodyI, startE, startI, sSeq, sRet, sAsg, sExp, sIfS, sNx, sV, sB, sC, PD.s2, toT, sTr, truth, bne_dec, sChain, sAnd, sOr, sNot, sIf, tAnd', tOr', tNot', sNil, sCons, sCall, allD, sN, allR, PD.res, sTup, sLst, sFr, gN, gT, gsNil, gsCons, sIsi, tyName, isSub, sOrE, sM1, sM1T, fAdd_int, fSub, fLe, fLt, fGt, fGe, eq_int, ne_int, cont?, setCont, List.replicate, fLen, sOwn, sApp, st, e2]) (by omega)) ⟨_, rfl⟩ ?_
    rintro i d ρ hd ⟨x, rfl⟩
    rw [List.getElem?_map, Option.map_eq_some_iff] at hd
    obtain ⟨i', g1, rfl⟩ := hd
    obtain ⟨hi, g2⟩ := List.getElem?_eq_some_iff.mp g1
    rw [List.getElem_range] at g2
    rw [List.length_range] at hi
    subst g2
    have p1 : a * n ^ i < 2 ^ (4 + (5 * i + 1)) := mul_lt_pow (show a < 2 ^ 4 by omega) (pow_lt hn.2 i) (Nat.le_refl _)
    have q := mulL (x := a * n ^ i) (y := n) p1 (show n < 2 ^ 5 by omega) (by omega)
    have es : a * n ^ (i + 1) = a * n ^ i * n := by rw [Nat.pow_succ, Nat.mul_assoc]
    obtain ⟨A, hA⟩ : ∃ z, z = a * n ^ i := ⟨_, rfl⟩
    rw [← hA] at q es
    obtain ⟨B, hB⟩ : ∃ z, z = A * n := ⟨_, rfl⟩
    rw [← hB] at q es
    refine ⟨[.dat Sc, .own r3, .dat (iN a), .dat (iN n), .dat (iN m), .dat T5, .dat W, .dat C, .dat S, .dat P, .dat O, .dat (iN i), .dat T12, .dat (iN A), .un], .nx, st (i + 1) (.dat (iN i)), by rw [hA]; rfl, ?_, .inl rfl, _, rfl⟩
    show b3_law _ = some (.nx, [.dat Sc, .own r3, .dat (iN a), .dat (iN n), .dat (iN m), .dat T5, .dat W, .dat C, .dat S, .dat P, .dat O, .dat (iN i), .dat T12, .dat (iN (a * n ^ (i + 1))), .un])
    rw [es]
    unfold b3_law
    simp [bodyP, bodyI, startE, startI, sSeq, sRet, sAsg, sExp, sIfS, sNx, sV, sB, sC, PD.s2, toT, sTr, truth, bne_dec, sChain, sAnd, sOr, sNot, sIf, tAnd', tOr', tNot', sNil, sCons, sCall, allD, sN, allR, PD.res, sTup, sLst, sFr, gN, gT, gsNil, gsCons, sIsi, tyName, isSub, sOrE, sM1, sM1T, fAdd_int, fSub, fLe, fLt, fGt, fGe, eq_int, ne_int, cont?, setCont, List.replicate, fLen, sOwn, sApp, q]
  obtain ⟨ρ', e4, x, rfl⟩ := loop
  rw [List.length_map, List.length_range] at e4
  refine ⟨x, ?_⟩
  have : st 0 x11 = [.dat Sc, .own r3, .dat (iN a), .dat (iN n), .dat (iN m), .dat T5, .dat W, .dat C, .dat S, .dat P, .dat O, x11, .dat T12, .dat (iN a), .un] := by
    show [Sl.dat Sc, .own r3, .dat (iN a), .dat (iN n), .dat (iN m), .dat T5, .dat W, .dat C, .dat S, .dat P, .dat O, x11, .dat T12, .dat (iN (a * n ^ 0)), .un] = _
    rw [Nat.pow_zero, Nat.mul_one]
  rw [← this]
  exact e4
end
/-! small numbers of arms and lands -/
theorem an_all : ∀ a ∈ List.range 13, ∀ m ∈ List.range 13, 3 ≤ a → 2 ≤ m → aaN a m = oc a m * fac m + perm m a * anN a m ∧ (anN a m = 0 ↔ m < a) := by decide +kernel
end S37

/-! the law -/
namespace S37
open PySem PD
theorem ne_self (x : Nat) : fNe (iN x) (iN x) = some (.bool false) := by rw [ne_nat, decide_eq_true rfl]; rfl
theorem num_le_den {t b : Nat} (hb : 0 < b) (h : t ≤ b) : num t b ≤ den t b := by
  have c := cross t b
  have h1 : num t b * b ≤ den t b * b := by
    rw [c, Nat.mul_comm (den t b)]
    exact Nat.mul_le_mul_right _ h
  exact Nat.le_of_mul_le_mul_right h1 hb
theorem den_le_num {t b k : Nat} (hb : 0 < b) (h : b ≤ t * k) : den t b ≤ num t b * k := by
  have c := cross t b
  have h1 : den t b * b ≤ num t b * k * b := by
    rw [Nat.mul_right_comm, c, Nat.mul_right_comm, Nat.mul_comm (den t b)]
    exact Nat.mul_le_mul_right _ h
  exact Nat.le_of_mul_le_mul_right h1 hb
theorem math (ns : List Int) (h : ns.length ≤ 63) (hb : ∀ z ∈ ns, Builtin.Int.intBits z ≤ 1048576) : p_law [.list (ns.map PyData.int)] = some (.bool true) := by
  have r0 : RowI ns [.list (ns.map .int), .int 0, .int 13937, .int 0] := ⟨0, 13937, 0, by omega, rfl⟩
  obtain ⟨v1, r1, e1, h1, r1k⟩ := taken (many := 10) r0 (by omega) (by omega)
  obtain ⟨v2, r2, e2, h2, r2k⟩ := taken (many := 30) r1k (by omega) (by omega)
  obtain ⟨a, ea⟩ : ∃ a, a = 3 + v1 := ⟨_, rfl⟩
  obtain ⟨n, en⟩ : ∃ n, n = 1 + v2 := ⟨_, rfl⟩
  obtain ⟨v3, r3, e3, h3, r3k⟩ := taken (many := n) r2k (by omega) (by omega)
  obtain ⟨m, em⟩ : ∃ m, m = 2 + v3 := ⟨_, rfl⟩
  have ia : (3 : Int) + (v1 : Int) = (a : Nat) := by omega
  have inn : (1 : Int) + (v2 : Int) = (n : Nat) := by omega
  have im : (2 : Int) + (v3 : Int) = (m : Nat) := by omega
  have I : Isl a n m := isl (by omega) (by omega) (by omega)
  have ha : 3 ≤ a ∧ a ≤ 12 := by omega
  have hn := I.hn
  have hm := I.hm
  obtain ⟨Sc, hSc⟩ : ∃ Z, Z = PyData.list (ns.map .int) := ⟨_, rfl⟩
  rw [← hSc] at e1 ⊢
  have e1' : p__law_taken [Sc, .int 0, .int 13937, .int 0] [.int 10] = some (iN v1, r1) := e1
  have e2' : p__law_taken r1 [.int 30] = some (iN v2, r2) := e2
  have gW := great_count I
  have gC := great_frozen I
  have gK := great_classes I
  have gS := great_class I
  have gF := frozen_share I
  have gX := same_chance I
  have hrest := rest I
  have cle := coN_le a n m
  have wpos := whN_pos I
  have w8 : whN a n m < 2 ^ 8000 := Nat.lt_of_lt_of_le (whN_lt I) (Nat.pow_le_pow_right (by omega) (by omega))
  have gR := law_ratio (t := coN a n m) wpos w8
  obtain ⟨p1, p2, p3, p4⟩ := prs I
  obtain ⟨x11, lp1⟩ := turns_loop (Sc := Sc) (W := iN (whN a n m)) (C := iN (coN a n m)) (S := iN (szN a n m)) (P := iN (perm m a)) (O := iN (oc a m * fac m)) (r3 := r3) (a := a) (n := n) (m := m) (by omega)
  obtain ⟨x12, lp2⟩ := falls_loop (Sc := Sc) (W := iN (whN a n m)) (C := iN (coN a n m)) (S := iN (szN a n m)) (P := iN (perm m a)) (O := iN (oc a m * fac m)) (r3 := r3) (T5 := iN (fac m)) (x11 := x11) (a := a) (n := n) (m := m) ha (by omega)
  obtain ⟨x13, lp3⟩ := power_loop (Sc := Sc) (W := iN (whN a n m)) (C := iN (coN a n m)) (S := iN (szN a n m)) (P := iN (perm m a)) (O := iN (oc a m * fac m)) (r3 := r3) (T5 := iN (fac m)) (T12 := iN (perm m a)) (x11 := x12) (a := a) (n := n) (m := m) ha hn
  have an : a * n ≤ 12 * 30 := Nat.mul_le_mul ha.2 hn.2
  have an1 : n ≤ a * n := Nat.le_mul_of_pos_left n (by omega)
  have gM := mulS (x := a) (y := n) (by omega)
  have gH : p__law_choices [iN (a * n), .int ((m : Int) - 1)] = some (iN (cc (a * n) (m - 1))) := by
    rw [show ((m : Int) - 1) = ((m - 1 : Nat) : Int) by omega]
    exact law_choices (by omega) (by omega)
  have gTt : fMul (iN (cc (a * n) (m - 1))) (iN (fac m)) = some (iN (whN a n m)) := mulL I.big (fac_lt (a := m) (by omega)) (by omega)
  have nW := ne_self (whN a n m)
  have gP := mulS (x := perm m a) (y := szN a n m) (perm_lt (by omega) (by omega))
  have gA : fAdd (iN (coN a n m)) (iN (perm m a * szN a n m)) = some (iN (whN a n m)) := by
    show some (PyData.int (((coN a n m : Nat) : Int) + ((perm m a * szN a n m : Nat) : Int))) = _
    rw [← hrest, show ((coN a n m : Nat) : Int) + ((whN a n m - coN a n m : Nat) : Int) = ((whN a n m : Nat) : Int) by omega]
  have nF : fNe (rat (coN a n m) (whN a n m)) (rat (coN a n m) (whN a n m)) = some (.bool false) := by
    rw [rat_eq, ne_pair, decide_eq_true rfl]
    rfl
  have qF : fEq (rat (coN a n m) (whN a n m)) (.tuple [.int 1, .int 1]) = some (.bool (decide (m < a))) := by
    have e : fEq (rat (coN a n m) (whN a n m)) (.tuple [.int 1, .int 1]) = some (.bool (decide ((num (coN a n m) (whN a n m), den (coN a n m) (whN a n m)) = (1, 1)))) := by
      rw [rat_eq]
      exact eq_pair _ _ 1 1
    rw [e]
    congr 2
    refine decide_eq_decide.mpr ⟨fun z => ?_, fun z => ?_⟩
    · have z1 : num (coN a n m) (whN a n m) = 1 := congrArg Prod.fst z
      have z2 : den (coN a n m) (whN a n m) = 1 := congrArg Prod.snd z
      have c := cross (coN a n m) (whN a n m)
      rw [z1, z2, Nat.one_mul, Nat.mul_one] at c
      rcases p3 with p3 | p3
      · exact p3
      · refine Classical.byContradiction fun nz => ?_
        have q : 0 < perm m a * szN a n m := by
          refine Nat.mul_pos ?_ ?_
          · unfold perm
            rw [if_pos (by omega)]
            have e := perm_fac (a := m) (b := a) (by omega)
            have := fac_pos m
            rcases Nat.eq_zero_or_pos (fpN m a) with z | z
            · rw [z] at e
              omega
            · exact z
          · unfold szN
            rw [if_neg nz]
            exact Nat.mul_pos p3 (fac_pos _)
        omega
    · have e : coN a n m = whN a n m := by
        unfold coN whN
        rw [I.few z, Nat.sub_zero]
      have := rat_one (x := whN a n m) (d := 1) wpos
      rw [Nat.one_mul, ← e, rat_eq] at this
      injection this with t
      have t1 : iN (num (coN a n m) (coN a n m)) = .int 1 := by injection t
      have t2 : iN (den (coN a n m) (coN a n m)) = .int 1 := by injection t with _ t
      injection t1 with t1
      injection t2 with t2
      rw [← e]
      refine Prod.ext ?_ ?_
      · show num _ _ = 1
        omega
      · show den _ _ = 1
        omega
  have nP := ne_self (perm m a)
  have nS : m = a → fNe (iN (szN a n m)) (iN (a * n ^ (a - 1))) = some (.bool false) := fun z => by rw [p4 z]; exact ne_self _
  -- the chance
  have ww : 0 < whN a n m * whN a n m := Nat.mul_pos wpos wpos
  have wl : whN a n m * whN a n m < 2 ^ 1060 := mul_lt_pow (whN_lt I) (whN_lt I) (by omega)
  have up : ∀ {x : Nat}, x < 2 ^ 1060 → x < 2 ^ 4000 := fun hx => Nat.lt_of_lt_of_le hx (Nat.pow_le_pow_right (by omega) (by omega))
  have nl : num (pairsN a n m) (whN a n m * whN a n m) < 2 ^ 4000 := up (num_lt (Nat.lt_of_le_of_lt p1 wl))
  have dl : den (pairsN a n m) (whN a n m * whN a n m) < 2 ^ 4000 := up (den_lt wl)
  have ocl := oc_small a (List.mem_range.mpr (by omega)) m (List.mem_range.mpr (by omega))
  have Kl : perm m a + oc a m * fac m < 2 ^ 200 := by
    have k1 := perm_lt (a := m) (b := a) (by omega) (by omega)
    have k2 : oc a m * fac m < 2 ^ 194 := mul_lt_pow (k := 64) (l := 130) ocl (fac_lt (by omega)) (by omega)
    have e1 : (2 : Nat) ^ 200 = 64 * 2 ^ 194 := by decide
    have e2 : (18446744073709551616 : Nat) ≤ 2 ^ 194 := by decide
    omega
  have K4 : perm m a + oc a m * fac m < 2 ^ 4000 := Nat.lt_of_lt_of_le Kl (Nat.pow_le_pow_right (by omega) (by omega))
  have K8 : perm m a + oc a m * fac m < 2 ^ 8000 := Nat.lt_of_lt_of_le Kl (Nat.pow_le_pow_right (by omega) (by omega))
  have Kp : 0 < perm m a + oc a m * fac m := by
    rcases Nat.eq_zero_or_pos (perm m a + oc a m * fac m) with z | z
    · rw [z, Nat.mul_zero] at p2
      omega
    · exact z
  have one : (1 : Nat) < 2 ^ 4000 := Nat.lt_of_lt_of_le (show 1 < 2 ^ 1 by omega) (Nat.pow_le_pow_right (by omega) (by omega))
  have less1 : p__law_less [.tuple [.int 1, .int 1], rat (pairsN a n m) (whN a n m * whN a n m)] = some (.bool false) := by
    have q := law_less (x0 := 1) (x1 := 1) one one nl dl
    rw [← rat_eq] at q
    have e := num_le_den ww p1
    have d0 : ¬ 1 * den (pairsN a n m) (whN a n m * whN a n m) < num (pairsN a n m) (whN a n m * whN a n m) * 1 := by omega
    rw [decide_eq_false d0] at q
    exact q
  have gK1 : p__law_ratio [.int 1, iN (perm m a + oc a m * fac m)] = some (rat 1 (perm m a + oc a m * fac m)) := law_ratio (t := 1) Kp K8
  have rK : rat 1 (perm m a + oc a m * fac m) = .tuple [.int 1, iN (perm m a + oc a m * fac m)] := by
    have := rat_one (x := 1) (d := perm m a + oc a m * fac m) (by omega)
    rw [Nat.mul_one] at this
    exact this
  rw [rK] at gK1
  have less2 : p__law_less [rat (pairsN a n m) (whN a n m * whN a n m), .tuple [.int 1, iN (perm m a + oc a m * fac m)]] = some (.bool false) := by
    have q := law_less (y0 := 1) nl dl one K4
    rw [← rat_eq] at q
    have e := den_le_num ww p2
    have d0 : ¬ num (pairsN a n m) (whN a n m * whN a n m) * (perm m a + oc a m * fac m) < 1 * den (pairsN a n m) (whN a n m * whN a n m) := by omega
    rw [decide_eq_false d0] at q
    exact q
  have aK : fAdd (iN (perm m a)) (iN (oc a m * fac m)) = some (iN (perm m a + oc a m * fac m)) := rfl
  have mK : fMax2 [.int 1, iN (perm m a + oc a m * fac m)] = some (iN (perm m a + oc a m * fac m)) := by
    show some (PyData.int (if ((perm m a + oc a m * fac m : Nat) : Int) > 1 then _ else _)) = _
    by_cases hk : ((perm m a + oc a m * fac m : Nat) : Int) > 1
    · rw [if_pos hk]
    · rw [if_neg hk]
      show some (PyData.int 1) = some (PyData.int ((perm m a + oc a m * fac m : Nat) : Int))
      rw [show ((perm m a + oc a m * fac m : Nat) : Int) = 1 by omega]
  -- arrangements
  have few : m ≤ 12 → p_all_arrangements [iN a, iN m] = some (iN (aaN a m)) ∧ p_arrangement_count [iN a, iN m] = some (iN (anN a m)) ∧ fMul (iN (perm m a)) (iN (anN a m)) = some (iN (perm m a * anN a m)) ∧
      fAdd (iN (oc a m * fac m)) (iN (perm m a * anN a m)) = some (iN (aaN a m)) ∧ fEq (iN (anN a m)) (.int 0) = some (.bool (decide (m < a))) := fun z => by
    obtain ⟨q1, q2⟩ := an_all a (List.mem_range.mpr (by omega)) m (List.mem_range.mpr (by omega)) ha.1 hm.1
    refine ⟨all_arrangements ha ⟨hm.1, z⟩, arrangement_count ha ⟨hm.1, z⟩, mulS (perm_lt (by omega) (by omega)), ?_, ?_⟩
    · rw [q1]
      rfl
    · have e := eq_nat (anN a m) 0
      rw [show decide (anN a m = 0) = decide (m < a) from decide_eq_decide.mpr q2] at e
      exact e
  have nL := ne_self (aaN a m)
  -- names
  obtain ⟨Ch, hCh⟩ : ∃ z, z = rat (pairsN a n m) (whN a n m * whN a n m) := ⟨_, rfl⟩
  obtain ⟨Kk, hKk⟩ : ∃ z, z = iN (perm m a + oc a m * fac m) := ⟨_, rfl⟩
  obtain ⟨Sh, hSh⟩ : ∃ z, z = rat (coN a n m) (whN a n m) := ⟨_, rfl⟩
  obtain ⟨PS, hPS⟩ : ∃ z, z = iN (perm m a * szN a n m) := ⟨_, rfl⟩
  obtain ⟨W, hW⟩ : ∃ z, z = iN (whN a n m) := ⟨_, rfl⟩
  obtain ⟨C, hC⟩ : ∃ z, z = iN (coN a n m) := ⟨_, rfl⟩
  obtain ⟨PA, hPA⟩ : ∃ z, z = iN (perm m a * anN a m) := ⟨_, rfl⟩
  obtain ⟨S, hS⟩ : ∃ z, z = iN (szN a n m) := ⟨_, rfl⟩
  obtain ⟨P, hP⟩ : ∃ z, z = iN (perm m a) := ⟨_, rfl⟩
  obtain ⟨O, hO⟩ : ∃ z, z = iN (oc a m * fac m) := ⟨_, rfl⟩
  obtain ⟨Pw, hPw⟩ : ∃ z, z = iN (a * n ^ (a - 1)) := ⟨_, rfl⟩
  obtain ⟨M, hM⟩ : ∃ z, z = iN (a * n) := ⟨_, rfl⟩
  obtain ⟨Fa, hF⟩ : ∃ z, z = iN (fac m) := ⟨_, rfl⟩
  obtain ⟨H1, hH⟩ : ∃ z, z = iN (cc (a * n) (m - 1)) := ⟨_, rfl⟩
  obtain ⟨Aa, hAa⟩ : ∃ z, z = iN (aaN a m) := ⟨_, rfl⟩
  obtain ⟨An, hAn⟩ : ∃ z, z = iN (anN a m) := ⟨_, rfl⟩
  rw [← hCh] at gX less1 less2
  rw [← hKk] at gK1 less2 aK mK
  rw [← hSh] at gF gR nF qF
  rw [← hPS] at gP gA
  rw [← hH] at gH gTt
  rw [← hW] at gW lp1 lp2 lp3 gTt nW gA gR
  rw [← hC] at gC lp1 lp2 lp3 gA gR
  rw [← hPA, ← hAn, ← hAa, ← hO, ← hP] at few
  rw [← hS] at gS lp1 lp2 lp3 gP nS
  rw [← hP] at lp1 lp2 lp3 gP nP aK gK
  rw [← hO] at lp1 lp2 lp3 aK gK
  rw [← hPw] at lp3 nS
  rw [← hM] at gM gH
  rw [← hF] at lp1 lp2 lp3 gTt
  rw [← hAa] at nL
  clear hCh hKk hSh hPS hW hC hPA hS hP hO hPw hM hF hH hAa hAn p1 p2 p3 p4 hrest cle wpos w8 ww wl up nl dl ocl Kl K4 K8 Kp one rK an an1
  have bb : ∀ b : Bool, fNe (.bool b) (.bool b) = some (.bool false) := fun b => by cases b <;> rfl
  have be : ∀ b : Bool, fEq (.bool b) (.bool b) = some (.bool true) := fun b => by cases b <;> rfl
  have bbt := bb true
  have bbf := bb false
  have bet := be true
  have bef := be false
  have fin : ∀ (c1 : Bool), (decide (m < a) = c1) → (decide ((m : Int) < (a : Int)) = c1) → p_law [Sc] = some (.bool true) := fun c1 hc hci => by
    have lt' : fLt (iN m) (iN a) = some (.bool c1) := by
      show some (PyData.bool (decide ((m : Int) < (a : Int)))) = _
      rw [hci]
    rw [hc] at qF few
    have bb1 := bb c1
    have be1 := be c1
    by_cases c2 : m = a
    · have c2t : (m = a) = True := eq_true c2
      have ic2t : ((m : Int) = (a : Int)) = True := eq_true (by omega)
      have nS' := nS c2
      by_cases c3 : m ≤ 12
      · obtain ⟨u1, u2, u3, u4, u5⟩ := few c3
        have ic3 : (m : Int) ≤ 12 := by omega
        have ic3' : ¬ (12 : Int) < (m : Int) := by omega
        have ic3'' : ¬ 12 < m := by omega
        unfold p_law g_law
        simp [bodyP, bodyI, startE, startI, sSeq, sRet, sAsg, sExp, sIfS, sNx, sV, sB, sC, PD.s2, toT, sTr, truth, bne_dec, sChain, sAnd, sOr, sNot, sIf, tAnd', tOr', tNot', sNil, sCons, sCall, allD, sN, allR, PD.res, sTup, sLst, sFr, gN, gT, gsNil, gsCons, sIsi, tyName, isSub, sOrE, sM1, sM1T, fAdd_int, fSub, fLe, fLt, fGt, fGe, eq_int, ne_int, cont?, setCont, List.replicate, fLen, sOwn, sApp, sLst, sCallI, sPar, putDs, e1', e2', ia, inn, e3, im, gW, gC, gS, gK, lp1, gM, gH, gTt, nW, gP, gA, gF, gR, nF, hci, hc, qF, bb1, lp2, lp3, nP, c2t, ic2t, nS', gX, less1, aK, mK, gK1, less2, c3, ic3, ic3', ic3'', u1, u2, u3, u4, u5, nL, be1]
      · have ic3 : ¬ (m : Int) ≤ 12 := by omega
        have ic3' : (12 : Int) < (m : Int) := by omega
        have ic3'' : 12 < m := by omega
        unfold p_law g_law
        simp [bodyP, bodyI, startE, startI, sSeq, sRet, sAsg, sExp, sIfS, sNx, sV, sB, sC, PD.s2, toT, sTr, truth, bne_dec, sChain, sAnd, sOr, sNot, sIf, tAnd', tOr', tNot', sNil, sCons, sCall, allD, sN, allR, PD.res, sTup, sLst, sFr, gN, gT, gsNil, gsCons, sIsi, tyName, isSub, sOrE, sM1, sM1T, fAdd_int, fSub, fLe, fLt, fGt, fGe, eq_int, ne_int, cont?, setCont, List.replicate, fLen, sOwn, sApp, sLst, sCallI, sPar, putDs, e1', e2', ia, inn, e3, im, gW, gC, gS, gK, lp1, gM, gH, gTt, nW, gP, gA, gF, gR, nF, hci, hc, qF, bb1, lp2, lp3, nP, c2t, ic2t, nS', gX, less1, aK, mK, gK1, less2, c3, ic3, ic3', ic3'']
    · have ic2 : ¬ (m : Int) = (a : Int) := by omega
      by_cases c3 : m ≤ 12
      · obtain ⟨u1, u2, u3, u4, u5⟩ := few c3
        have ic3 : (m : Int) ≤ 12 := by omega
        have ic3' : ¬ (12 : Int) < (m : Int) := by omega
        have ic3'' : ¬ 12 < m := by omega
        unfold p_law g_law
        simp [bodyP, bodyI, startE, startI, sSeq, sRet, sAsg, sExp, sIfS, sNx, sV, sB, sC, PD.s2, toT, sTr, truth, bne_dec, sChain, sAnd, sOr, sNot, sIf, tAnd', tOr', tNot', sNil, sCons, sCall, allD, sN, allR, PD.res, sTup, sLst, sFr, gN, gT, gsNil, gsCons, sIsi, tyName, isSub, sOrE, sM1, sM1T, fAdd_int, fSub, fLe, fLt, fGt, fGe, eq_int, ne_int, cont?, setCont, List.replicate, fLen, sOwn, sApp, sLst, sCallI, sPar, putDs, e1', e2', ia, inn, e3, im, gW, gC, gS, gK, lp1, gM, gH, gTt, nW, gP, gA, gF, gR, nF, hci, hc, qF, bb1, lp2, lp3, nP, c2, ic2, gX, less1, aK, mK, gK1, less2, c3, ic3, ic3', ic3'', u1, u2, u3, u4, u5, nL, be1]
      · have ic3 : ¬ (m : Int) ≤ 12 := by omega
        have ic3' : (12 : Int) < (m : Int) := by omega
        have ic3'' : 12 < m := by omega
        unfold p_law g_law
        simp [bodyP, bodyI, startE, startI, sSeq, sRet, sAsg, sExp, sIfS, sNx, sV, sB, sC, PD.s2, toT, sTr, truth, bne_dec, sChain, sAnd, sOr, sNot, sIf, tAnd', tOr', tNot', sNil, sCons, sCall, allD, sN, allR, PD.res, sTup, sLst, sFr, gN, gT, gsNil, gsCons, sIsi, tyName, isSub, sOrE, sM1, sM1T, fAdd_int, fSub, fLe, fLt, fGt, fGe, eq_int, ne_int, cont?, setCont, List.replicate, fLen, sOwn, sApp, sLst, sCallI, sPar, putDs, e1', e2', ia, inn, e3, im, gW, gC, gS, gK, lp1, gM, gH, gTt, nW, gP, gA, gF, gR, nF, hci, hc, qF, bb1, lp2, lp3, nP, c2, ic2, gX, less1, aK, mK, gK1, less2, c3, ic3, ic3', ic3'']
  by_cases hc : m < a
  · exact fin true (decide_eq_true hc) (decide_eq_true (by omega))
  · exact fin false (decide_eq_false hc) (decide_eq_false (by omega))
end S37

open PySem PySem.W PyProof.Rows PD
set_option maxRecDepth 100000 in
set_option maxHeartbeats 0 in
theorem PySem.Challenge.cw_starlands_k37_across_greater_islands_holds : PySem.Challenge.rw_starlands_k37_across_greater_islands.Holds := by
  w_on; o_law; k_head; (case hw => w_witness2)
  k_fill
  refine PD.walk_ofG (l := PySem.Challenge.rw_starlands_k37_across_greater_islands) (n := 63) (k := 7) (x := "script") (CX := fun _ => L2.CX0) rfl (by decide) rfl ⟨rfl, by decide, by decide⟩ (fun w h Y => PySem.W.kIn_of Y) ?F (fun _ _ _ _ _ h => h)
  intro w mg fa h Y KX G hmg tab
  refine' withDk (x := "is_whole") (st := S37.st_is_whole) (ps := ["value"]) KX G ?a0 ?l0 ?c0 ?k0 (fun _ _ _ _ _ _ us hl => match us, hl with | [_], _ => rfl) ?next0
  (case a0 => k_is); (case l0 => k_is); (case c0 => k_is); (case k0 => k_is)
  intro f_is_whole fd_is_whole D_is_whole
  refine' withDk (x := "is_integer") (st := S37.st_is_integer) (ps := ["value", "low", "high"]) KX G ?a1 ?l1 ?c1 ?k1 (fun _ _ _ _ _ _ us hl => match us, hl with | [_, _, _], _ => rfl) ?next1
  (case a1 => k_is); (case l1 => k_is); (case c1 => k_is); (case k1 => k_is)
  intro f_is_integer fd_is_integer D_is_integer
  refine' withDd (x := "check_arms") (st := S37.st_check_arms) (ps := ["arms", "most"]) (dvs := [L2.V.int (4)]) KX G ?a2 ?l2 ?c2 ?k2 ?lt2 ?hs2 ?b2 ?hv2 ?e2 ?next2
  (case a2 => k_is); (case l2 => k_is); (case c2 => k_is); (case k2 => k_is); (case lt2 => k_is); (case hs2 => rfl); (case b2 => exact (fun _ _ _ _ _ _ us hl => match us, hl with | [_, _], _ => ⟨_, rfl, rfl⟩)); (case hv2 => exact (.cons ⟨_, rfl⟩ .nil)); (case e2 => exact (by intro _ _ _ _ _ _ us hl; have h1 : us.length = 1 := (by simpa using hl); exact (match us, h1 with | [_], _ => ⟨_, rfl, rfl⟩)))
  intro f_check_arms fd_check_arms D_check_arms
  refine' withDd (x := "check_length") (st := S37.st_check_length) (ps := ["length", "most"]) (dvs := [L2.V.int (4)]) KX G ?a3 ?l3 ?c3 ?k3 ?lt3 ?hs3 ?b3 ?hv3 ?e3 ?next3
  (case a3 => k_is); (case l3 => k_is); (case c3 => k_is); (case k3 => k_is); (case lt3 => k_is); (case hs3 => rfl); (case b3 => exact (fun _ _ _ _ _ _ us hl => match us, hl with | [_, _], _ => ⟨_, rfl, rfl⟩)); (case hv3 => exact (.cons ⟨_, rfl⟩ .nil)); (case e3 => exact (by intro _ _ _ _ _ _ us hl; have h1 : us.length = 1 := (by simpa using hl); exact (match us, h1 with | [_], _ => ⟨_, rfl, rfl⟩)))
  intro f_check_length fd_check_length D_check_length
  refine' withDk (x := "check_lands") (st := S37.st_check_lands) (ps := ["length", "lands"]) KX G ?a4 ?l4 ?c4 ?k4 (fun _ _ _ _ _ _ us hl => match us, hl with | [_, _], _ => rfl) ?next4
  (case a4 => k_is); (case l4 => k_is); (case c4 => k_is); (case k4 => k_is)
  intro f_check_lands fd_check_lands D_check_lands
  refine' withDk (x := "check_great_island") (st := S37.st_check_great_island) (ps := ["arms", "length", "lands"]) KX G ?a5 ?l5 ?c5 ?k5 (fun _ _ _ _ _ _ us hl => match us, hl with | [_, _, _], _ => rfl) ?next5
  (case a5 => k_is); (case l5 => k_is); (case c5 => k_is); (case k5 => k_is)
  intro f_check_great_island fd_check_great_island D_check_great_island
  refine' withDk (x := "order_choices") (st := S37.st_order_choices) (ps := ["arms", "lands"]) KX G ?a6 ?l6 ?c6 ?k6 (fun _ _ _ _ _ _ us hl => match us, hl with | [_, _], _ => rfl) ?next6
  (case a6 => k_is); (case l6 => k_is); (case c6 => k_is); (case k6 => k_is)
  intro f_order_choices fd_order_choices D_order_choices
  refine' withDk (x := "count_classes") (st := S37.st_count_classes) (ps := ["arms", "lands"]) KX G ?a7 ?l7 ?c7 ?k7 (fun _ _ _ _ _ _ us hl => match us, hl with | [_, _], _ => rfl) ?next7
  (case a7 => k_is); (case l7 => k_is); (case c7 => k_is); (case k7 => k_is)
  intro f_count_classes fd_count_classes D_count_classes
  refine' withDk (x := "great_classes") (st := S37.st_great_classes) (ps := ["arms", "length", "lands"]) KX G ?a8 ?l8 ?c8 ?k8 (fun _ _ _ _ _ _ us hl => match us, hl with | [_, _, _], _ => rfl) ?next8
  (case a8 => k_is); (case l8 => k_is); (case c8 => k_is); (case k8 => k_is)
  intro f_great_classes fd_great_classes D_great_classes
  refine' withDk (x := "border_choices") (st := S37.st_border_choices) (ps := ["arms", "length", "many"]) KX G ?a9 ?l9 ?c9 ?k9 (fun _ _ _ _ _ _ us hl => match us, hl with | [_, _, _], _ => rfl) ?next9
  (case a9 => k_is); (case l9 => k_is); (case c9 => k_is); (case k9 => k_is)
  intro f_border_choices fd_border_choices D_border_choices
  refine' withDk (x := "warm_choices") (st := S37.st_warm_choices) (ps := ["arms", "length", "many"]) KX G ?a10 ?l10 ?c10 ?k10 (fun _ _ _ _ _ _ us hl => match us, hl with | [_, _, _], _ => rfl) ?next10
  (case a10 => k_is); (case l10 => k_is); (case c10 => k_is); (case k10 => k_is)
  intro f_warm_choices fd_warm_choices D_warm_choices
  refine' withDk (x := "count_class") (st := S37.st_count_class) (ps := ["arms", "length", "lands"]) KX G ?a11 ?l11 ?c11 ?k11 (fun _ _ _ _ _ _ us hl => match us, hl with | [_, _, _], _ => rfl) ?next11
  (case a11 => k_is); (case l11 => k_is); (case c11 => k_is); (case k11 => k_is)
  intro f_count_class fd_count_class D_count_class
  refine' withDk (x := "count_maps") (st := S37.st_count_maps) (ps := ["arms", "length", "lands"]) KX G ?a12 ?l12 ?c12 ?k12 (fun _ _ _ _ _ _ us hl => match us, hl with | [_, _, _], _ => rfl) ?next12
  (case a12 => k_is); (case l12 => k_is); (case c12 => k_is); (case k12 => k_is)
  intro f_count_maps fd_count_maps D_count_maps
  refine' withDk (x := "ratio") (st := S37.st_ratio) (ps := ["top", "bottom"]) KX G ?a13 ?l13 ?c13 ?k13 (fun _ _ _ _ _ _ us hl => match us, hl with | [_, _], _ => rfl) ?next13
  (case a13 => k_is); (case l13 => k_is); (case c13 => k_is); (case k13 => k_is)
  intro f_ratio fd_ratio D_ratio
  refine' withDk (x := "with_one_arm_more") (st := S37.st_with_one_arm_more) (ps := ["length", "ways"]) KX G ?a14 ?l14 ?c14 ?k14 (fun _ _ _ _ _ _ us hl => match us, hl with | [_, _], _ => rfl) ?next14
  (case a14 => k_is); (case l14 => k_is); (case c14 => k_is); (case k14 => k_is)
  intro f_with_one_arm_more fd_with_one_arm_more D_with_one_arm_more
  refine' withDk (x := "frozen_pairs") (st := S37.st_frozen_pairs) (ps := ["arms", "length", "lands"]) KX G ?a15 ?l15 ?c15 ?k15 (fun _ _ _ _ _ _ us hl => match us, hl with | [_, _, _], _ => rfl) ?next15
  (case a15 => k_is); (case l15 => k_is); (case c15 => k_is); (case k15 => k_is)
  intro f_frozen_pairs fd_frozen_pairs D_frozen_pairs
  refine' withDk (x := "same_chance") (st := S37.st_same_chance) (ps := ["arms", "length", "lands"]) KX G ?a16 ?l16 ?c16 ?k16 (fun _ _ _ _ _ _ us hl => match us, hl with | [_, _, _], _ => rfl) ?next16
  (case a16 => k_is); (case l16 => k_is); (case c16 => k_is); (case k16 => k_is)
  intro f_same_chance fd_same_chance D_same_chance
  refine' withDk (x := "great_count") (st := S37.st_great_count) (ps := ["arms", "length", "lands"]) KX G ?a17 ?l17 ?c17 ?k17 (fun _ _ _ _ _ _ us hl => match us, hl with | [_, _, _], _ => rfl) ?next17
  (case a17 => k_is); (case l17 => k_is); (case c17 => k_is); (case k17 => k_is)
  intro f_great_count fd_great_count D_great_count
  refine' withDk (x := "count_frozen") (st := S37.st_count_frozen) (ps := ["arms", "length", "lands"]) KX G ?a18 ?l18 ?c18 ?k18 (fun _ _ _ _ _ _ us hl => match us, hl with | [_, _, _], _ => rfl) ?next18
  (case a18 => k_is); (case l18 => k_is); (case c18 => k_is); (case k18 => k_is)
  intro f_count_frozen fd_count_frozen D_count_frozen
  refine' withDk (x := "great_frozen") (st := S37.st_great_frozen) (ps := ["arms", "length", "lands"]) KX G ?a19 ?l19 ?c19 ?k19 (fun _ _ _ _ _ _ us hl => match us, hl with | [_, _, _], _ => rfl) ?next19
  (case a19 => k_is); (case l19 => k_is); (case c19 => k_is); (case k19 => k_is)
  intro f_great_frozen fd_great_frozen D_great_frozen
  refine' withDk (x := "great_class") (st := S37.st_great_class) (ps := ["arms", "length", "lands"]) KX G ?a20 ?l20 ?c20 ?k20 (fun _ _ _ _ _ _ us hl => match us, hl with | [_, _, _], _ => rfl) ?next20
  (case a20 => k_is); (case l20 => k_is); (case c20 => k_is); (case k20 => k_is)
  intro f_great_class fd_great_class D_great_class
  refine' withDk (x := "_law_less") (st := S37.st__law_less) (ps := ["one", "other"]) KX G ?a21 ?l21 ?c21 ?k21 (fun _ _ _ _ _ _ us hl => match us, hl with | [_, _], _ => rfl) ?next21
  (case a21 => k_is); (case l21 => k_is); (case c21 => k_is); (case k21 => k_is)
  intro f__law_less fd__law_less D__law_less
  refine' withDk (x := "_law_taken") (st := S37.st__law_taken) (ps := ["row", "many"]) KX G ?a22 ?l22 ?c22 ?k22 (fun _ _ _ _ _ _ us hl => match us, hl with | [_, _], _ => rfl) ?next22
  (case a22 => k_is); (case l22 => k_is); (case c22 => k_is); (case k22 => k_is)
  intro f__law_taken fd__law_taken D__law_taken
  refine' withDk (x := "frozen_share") (st := S37.st_frozen_share) (ps := ["arms", "length", "lands"]) KX G ?a23 ?l23 ?c23 ?k23 (fun _ _ _ _ _ _ us hl => match us, hl with | [_, _, _], _ => rfl) ?next23
  (case a23 => k_is); (case l23 => k_is); (case c23 => k_is); (case k23 => k_is)
  intro f_frozen_share fd_frozen_share D_frozen_share
  refine' withDk (x := "_law_ratio") (st := S37.st__law_ratio) (ps := ["top", "bottom"]) KX G ?a24 ?l24 ?c24 ?k24 (fun _ _ _ _ _ _ us hl => match us, hl with | [_, _], _ => rfl) ?next24
  (case a24 => k_is); (case l24 => k_is); (case c24 => k_is); (case k24 => k_is)
  intro f__law_ratio fd__law_ratio D__law_ratio
  refine' withDk (x := "check_arms_and_lands") (st := S37.st_check_arms_and_lands) (ps := ["arms", "lands"]) KX G ?a25 ?l25 ?c25 ?k25 (fun _ _ _ _ _ _ us hl => match us, hl with | [_, _], _ => rfl) ?next25
  (case a25 => k_is); (case l25 => k_is); (case c25 => k_is); (case k25 => k_is)
  intro f_check_arms_and_lands fd_check_arms_and_lands D_check_arms_and_lands
  refine' withDk (x := "all_arrangements") (st := S37.st_all_arrangements) (ps := ["arms", "lands"]) KX G ?a26 ?l26 ?c26 ?k26 (fun _ _ _ _ _ _ us hl => match us, hl with | [_, _], _ => rfl) ?next26
  (case a26 => k_is); (case l26 => k_is); (case c26 => k_is); (case k26 => k_is)
  intro f_all_arrangements fd_all_arrangements D_all_arrangements
  refine' withDk (x := "_law_choices") (st := S37.st__law_choices) (ps := ["whole", "part"]) KX G ?a27 ?l27 ?c27 ?k27 (fun _ _ _ _ _ _ us hl => match us, hl with | [_, _], _ => rfl) ?next27
  (case a27 => k_is); (case l27 => k_is); (case c27 => k_is); (case k27 => k_is)
  intro f__law_choices fd__law_choices D__law_choices
  refine' withDk (x := "arrangement_count") (st := S37.st_arrangement_count) (ps := ["arms", "lands"]) KX G ?a28 ?l28 ?c28 ?k28 (fun _ _ _ _ _ _ us hl => match us, hl with | [_, _], _ => rfl) ?next28
  (case a28 => k_is); (case l28 => k_is); (case c28 => k_is); (case k28 => k_is)
  intro f_arrangement_count fd_arrangement_count D_arrangement_count
  refine' withDk (x := "law") (st := S37.st_law) (ps := ["script"]) KX G ?a29 ?l29 ?c29 ?k29 (fun _ _ _ _ _ _ us hl => match us, hl with | [_], _ => rfl) ?next29
  (case a29 => k_is); (case l29 => k_is); (case c29 => k_is); (case k29 => k_is)
  intro f_law fd_law D_law
  refine' withC (x := "GREAT_ARMS") KX G ?c_GREAT_ARMS ?nc_GREAT_ARMS
  (case c_GREAT_ARMS => k_is)
  intro C_GREAT_ARMS
  refine' withC (x := "GREAT_LENGTH") KX G ?c_GREAT_LENGTH ?nc_GREAT_LENGTH
  (case c_GREAT_LENGTH => k_is)
  intro C_GREAT_LENGTH
  refine' withC (x := "MOST_LANDS") KX G ?c_MOST_LANDS ?nc_MOST_LANDS
  (case c_MOST_LANDS => k_is)
  intro C_MOST_LANDS
  refine' withC (x := "comb") (v := .builtin "math.comb") KX G ?c_comb ?nc_comb
  (case c_comb => k_is)
  intro C_comb
  refine' withC (x := "factorial") (v := .builtin "math.factorial") KX G ?c_factorial ?nc_factorial
  (case c_factorial => k_is)
  intro C_factorial
  refine' withC (x := "gcd") (v := .builtin "math.gcd") KX G ?c_gcd ?nc_gcd
  (case c_gcd => k_is)
  intro C_gcd
  refine' withC (x := "perm") (v := .builtin "math.perm") KX G ?c_perm ?nc_perm
  (case c_perm => k_is)
  intro C_perm
  have B : S37.Bt mg := by
    refine' ⟨PySem.W.mg_none_of KX G ?n_abs, PySem.W.mg_none_of KX G ?n_bool, PySem.W.mg_none_of KX G ?n_int, PySem.W.mg_none_of KX G ?n_isinstance, PySem.W.mg_none_of KX G ?n_len, PySem.W.mg_none_of KX G ?n_max, PySem.W.mg_none_of KX G ?n_range, PySem.W.mg_none_of KX G ?n_sum, C_comb, C_factorial, C_gcd, C_perm, ⟨_, C_GREAT_ARMS⟩, ⟨_, C_GREAT_LENGTH⟩, ⟨_, C_MOST_LANDS⟩⟩
    (case n_abs => k_is); (case n_bool => k_is); (case n_int => k_is); (case n_isinstance => k_is); (case n_len => k_is); (case n_max => k_is); (case n_range => k_is); (case n_sum => k_is)
  have e := hmg.symm.trans D_law.mg
  cases e
  refine lawAtS_of ([] : List (Addr × Addr)) S37.p_law ?kt ?_ ?_ ?_ (D_law.bindsTo fun _ _ _ _ _ _ _ => rfl) (fun ns hl hb => S37.math ns hl hb) ?_
  case kt => first | kernel_rfl | decide +kernel
  · intro p hp
    simp only [List.mem_cons, List.not_mem_nil, or_false] at hp
  · intro p hp
    simp only [List.mem_cons, List.not_mem_nil, or_false] at hp
  · intro p hp
    simp only [List.mem_cons, List.not_mem_nil, or_false] at hp
  · intro base KB GB hT
    have G_is_whole := S37.ok_is_whole (P := PySem.Challenge.rw_starlands_k37_across_greater_islands.prog) (w := w) (base := base) (T := ([] : List (Addr × Addr)).map (·.2)) D_is_whole B
    have G_is_integer := S37.ok_is_integer (P := PySem.Challenge.rw_starlands_k37_across_greater_islands.prog) (w := w) (base := base) (T := ([] : List (Addr × Addr)).map (·.2)) D_is_integer B D_is_whole G_is_whole
    have G_check_arms := S37.ok_check_arms (P := PySem.Challenge.rw_starlands_k37_across_greater_islands.prog) (w := w) (base := base) (T := ([] : List (Addr × Addr)).map (·.2)) D_check_arms B D_is_integer G_is_integer
    have G_check_length := S37.ok_check_length (P := PySem.Challenge.rw_starlands_k37_across_greater_islands.prog) (w := w) (base := base) (T := ([] : List (Addr × Addr)).map (·.2)) D_check_length B D_is_integer G_is_integer
    have G_check_lands := S37.ok_check_lands (P := PySem.Challenge.rw_starlands_k37_across_greater_islands.prog) (w := w) (base := base) (T := ([] : List (Addr × Addr)).map (·.2)) D_check_lands B D_is_integer G_is_integer
    have G_check_great_island := S37.ok_check_great_island (P := PySem.Challenge.rw_starlands_k37_across_greater_islands.prog) (w := w) (base := base) (T := ([] : List (Addr × Addr)).map (·.2)) D_check_great_island B D_check_arms G_check_arms D_check_length G_check_length D_check_lands G_check_lands
    have G_order_choices := S37.ok_order_choices (P := PySem.Challenge.rw_starlands_k37_across_greater_islands.prog) (w := w) (base := base) (T := ([] : List (Addr × Addr)).map (·.2)) D_order_choices B
    have G_count_classes := S37.ok_count_classes (P := PySem.Challenge.rw_starlands_k37_across_greater_islands.prog) (w := w) (base := base) (T := ([] : List (Addr × Addr)).map (·.2)) D_count_classes B D_order_choices G_order_choices
    have G_great_classes := S37.ok_great_classes (P := PySem.Challenge.rw_starlands_k37_across_greater_islands.prog) (w := w) (base := base) (T := ([] : List (Addr × Addr)).map (·.2)) D_great_classes B D_check_great_island G_check_great_island D_count_classes G_count_classes
    have G_border_choices := S37.ok_border_choices (P := PySem.Challenge.rw_starlands_k37_across_greater_islands.prog) (w := w) (base := base) (T := ([] : List (Addr × Addr)).map (·.2)) D_border_choices B
    have G_warm_choices := S37.ok_warm_choices (P := PySem.Challenge.rw_starlands_k37_across_greater_islands.prog) (w := w) (base := base) (T := ([] : List (Addr × Addr)).map (·.2)) D_warm_choices B D_border_choices G_border_choices
    have G_count_class := S37.ok_count_class (P := PySem.Challenge.rw_starlands_k37_across_greater_islands.prog) (w := w) (base := base) (T := ([] : List (Addr × Addr)).map (·.2)) D_count_class B D_warm_choices G_warm_choices
    have G_count_maps := S37.ok_count_maps (P := PySem.Challenge.rw_starlands_k37_across_greater_islands.prog) (w := w) (base := base) (T := ([] : List (Addr × Addr)).map (·.2)) D_count_maps B
    have G_ratio := S37.ok_ratio (P := PySem.Challenge.rw_starlands_k37_across_greater_islands.prog) (w := w) (base := base) (T := ([] : List (Addr × Addr)).map (·.2)) D_ratio B
    have G_with_one_arm_more := S37.ok_with_one_arm_more (P := PySem.Challenge.rw_starlands_k37_across_greater_islands.prog) (w := w) (base := base) (T := ([] : List (Addr × Addr)).map (·.2)) D_with_one_arm_more B
    have G_frozen_pairs := S37.ok_frozen_pairs (P := PySem.Challenge.rw_starlands_k37_across_greater_islands.prog) (w := w) (base := base) (T := ([] : List (Addr × Addr)).map (·.2)) D_frozen_pairs B D_with_one_arm_more G_with_one_arm_more
    have G_same_chance := S37.ok_same_chance (P := PySem.Challenge.rw_starlands_k37_across_greater_islands.prog) (w := w) (base := base) (T := ([] : List (Addr × Addr)).map (·.2)) D_same_chance B D_check_great_island G_check_great_island D_count_classes G_count_classes D_count_class G_count_class D_frozen_pairs G_frozen_pairs D_count_maps G_count_maps D_ratio G_ratio
    have G_great_count := S37.ok_great_count (P := PySem.Challenge.rw_starlands_k37_across_greater_islands.prog) (w := w) (base := base) (T := ([] : List (Addr × Addr)).map (·.2)) D_great_count B D_check_great_island G_check_great_island D_count_maps G_count_maps
    have G_count_frozen := S37.ok_count_frozen (P := PySem.Challenge.rw_starlands_k37_across_greater_islands.prog) (w := w) (base := base) (T := ([] : List (Addr × Addr)).map (·.2)) D_count_frozen B D_warm_choices G_warm_choices
    have G_great_frozen := S37.ok_great_frozen (P := PySem.Challenge.rw_starlands_k37_across_greater_islands.prog) (w := w) (base := base) (T := ([] : List (Addr × Addr)).map (·.2)) D_great_frozen B D_check_great_island G_check_great_island D_count_frozen G_count_frozen
    have G_great_class := S37.ok_great_class (P := PySem.Challenge.rw_starlands_k37_across_greater_islands.prog) (w := w) (base := base) (T := ([] : List (Addr × Addr)).map (·.2)) D_great_class B D_check_great_island G_check_great_island D_count_class G_count_class
    have G__law_less := S37.ok__law_less (P := PySem.Challenge.rw_starlands_k37_across_greater_islands.prog) (w := w) (base := base) (T := ([] : List (Addr × Addr)).map (·.2)) D__law_less B
    have G__law_taken := S37.ok__law_taken (P := PySem.Challenge.rw_starlands_k37_across_greater_islands.prog) (w := w) (base := base) (T := ([] : List (Addr × Addr)).map (·.2)) D__law_taken B
    have G_frozen_share := S37.ok_frozen_share (P := PySem.Challenge.rw_starlands_k37_across_greater_islands.prog) (w := w) (base := base) (T := ([] : List (Addr × Addr)).map (·.2)) D_frozen_share B D_ratio G_ratio D_great_frozen G_great_frozen D_count_maps G_count_maps
    have G__law_ratio := S37.ok__law_ratio (P := PySem.Challenge.rw_starlands_k37_across_greater_islands.prog) (w := w) (base := base) (T := ([] : List (Addr × Addr)).map (·.2)) D__law_ratio B
    have G_check_arms_and_lands := S37.ok_check_arms_and_lands (P := PySem.Challenge.rw_starlands_k37_across_greater_islands.prog) (w := w) (base := base) (T := ([] : List (Addr × Addr)).map (·.2)) D_check_arms_and_lands B D_check_arms G_check_arms D_check_lands G_check_lands
    have G_all_arrangements := S37.ok_all_arrangements (P := PySem.Challenge.rw_starlands_k37_across_greater_islands.prog) (w := w) (base := base) (T := ([] : List (Addr × Addr)).map (·.2)) D_all_arrangements B D_check_arms_and_lands G_check_arms_and_lands
    have G__law_choices := S37.ok__law_choices (P := PySem.Challenge.rw_starlands_k37_across_greater_islands.prog) (w := w) (base := base) (T := ([] : List (Addr × Addr)).map (·.2)) D__law_choices B
    have G_arrangement_count := S37.ok_arrangement_count (P := PySem.Challenge.rw_starlands_k37_across_greater_islands.prog) (w := w) (base := base) (T := ([] : List (Addr × Addr)).map (·.2)) D_arrangement_count B D_check_arms_and_lands G_check_arms_and_lands
    have G_law := S37.ok_law (P := PySem.Challenge.rw_starlands_k37_across_greater_islands.prog) (w := w) (base := base) (T := ([] : List (Addr × Addr)).map (·.2)) D_law B D__law_taken G__law_taken D_great_count G_great_count D_great_frozen G_great_frozen D_great_class G_great_class D_great_classes G_great_classes D__law_choices G__law_choices D_frozen_share G_frozen_share D__law_ratio G__law_ratio D_same_chance G_same_chance D__law_less G__law_less D_all_arrangements G_all_arrangements D_arrangement_count G_arrangement_count
    exact G_law

