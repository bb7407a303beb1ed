import PyProof.Rows.All
import Wide.All
import OpenK.AllK
import Wide.FinOn
import HandS.AnyAll
import HandS.GenBody
import HandS.GenCall
import HandS.GenList
import HandS.GenOver
import HandS.ForMost
import HandS.Deep
import HandS.Walk
import KE.KDictKeyed
import KE.KDictWalk
import HandS.TupAny
import HandS.Conv
import HandS.IsInst
import HandS.Style
import HandS.Wide
import HandS.SortRule
import KE.SortData
import KE.DataMinMax
import KE.GoesEnum
import HandS.Zip
import HandS.SetFor
import HandS.Gcd
import KE.KMathGC
import OpenK.KMore
import KE.KIndexOf
import HandS.TupSets
import KE.DataCmp
import HandS.TupMul
import KE.KTupSum
import KE.KDictDisplayH
import HandS.CallLocal
import KE.OsMinMax
import KE.Datum
import HandS.EndTab
import HandS.EndOwn
import PySem.Challenge.RW_starlands_k89_across_tight_maps
set_option Elab.async false
set_option linter.all false
set_option maxRecDepth 90000
set_option maxHeartbeats 3900000
/-! all(..) of a generator expression over anything that a for walks, its element any expression that gives a bool -/
namespace LG
open PySem PySem.Spec PyProof.Rows L2

/-- the generator expression's own scope: no cells; captured names are cells of the def; its own names have places -/
structure GOk (N : List Str) (sc scope : Scope) (own : List (Str × Nat)) : Prop where
  blk : BlkOk N sc scope own
  nocell : ∀ y ∈ scope.names, y.2 ≠ NameKind.cell
  dot : scope.names.lookup (".0" : Str) = some NameKind.local
  co : scope.isCoroutine = false

abbrev gAr (X : Cx) (gE : Expr) (it : Value) (ge : Env) : Around := (X.A.in1.in1).over (.compLoop gE 0 it .none ge) []
/-- the context in which a turn of the generator runs -/
abbrev gcx (X : Cx) (s : Shared) (H : Hp) (scope : Scope) (A' : Around) (ge : Env) (fp : List Addr) : Cx :=
  { X with A := A', s_0 := s, H_0 := H, env := ge, outer := X.stack, stack := ge :: X.stack, ex := fp, fn := fun x => scope.names.lookup x == some .cell, pn := [], xe := fun _ _ => False }
abbrev gEnvOf (X : Cx) (scope : Scope) (C : Addr) (code : Value) : Env := genEnv scope (cloFrom X.env.cells scope.names []) C code builtinsNs X.env

section
variable {X : Cx} {pins : List (Addr × Obj)} {σ : L2.St} {H : Hp} {s : Shared}

theorem gAr_frames {elt : Expr} {gs : List Comprehension} {scope : Scope} {gp : Pos} {it : Value} {ge : Env} {l : List Env} (h : X.A.frames = some l) : (gAr X (.GeneratorExp elt gs scope gp) it ge).frames = some (ge :: l) := by
  have h2 : X.A.in1.in1.frames = some l := h
  simp [gAr, Around.over, envsOf, pushEnvs, Code.envs, Code.isFrame, h2]
  rw [h]
  rfl

theorem gen_start {scope : Scope} {own : List (Str × Nat)} {fp : List Addr} {A' : Around} {code : Value} {h' : Heap} {m0 : Str → Option Value} {g' : Array GenState} {tk : Nat}
    (I : Inv X pins σ H s) (ok : GOk X.N X.env.scope scope own) (hN : X.N.Nodup) (hfp : ∀ b ∈ fp, FpOk X pins H b ∧ b < s.heap.objs.size)
    (hA : A'.handled = X.A.handled) (hF : A'.frames = some (gEnvOf X scope s.heap.objs.size code :: X.stack))
    (hk : ∀ b o, s.heap.get? b = some o → h'.get? b = some o) (hns : h'.Ns s.heap.objs.size m0) (hg : AllBare g') :
    Inv (gcx X s H scope A' (gEnvOf X scope s.heap.objs.size code) fp) [] (wipe σ (own.map (·.2))) H { s with heap := h', gens := g', toks := tk } := by
  have captured : ∀ {y c}, (gEnvOf X scope s.heap.objs.size code).cells.lookup y = some c → X.env.cells.lookup y = some c := fun {y c} e => by
    rcases cloFrom_mem (PySem.mem_of_lookup (show (cloFrom X.env.cells scope.names []).lookup y = some c from e)) with hm | ⟨h1, rfl⟩
    · cases hm
    · obtain ⟨c, hc⟩ : ∃ c, X.env.cells.lookup y = some c := by
        rcases ok.blk.free _ h1 rfl with q | q
        · exact I.ok.has _ (.inl q)
        · exact I.ok.has _ (.inr q)
      rw [hc]
      rfl
  have cellOld : ∀ {y c}, (gEnvOf X scope s.heap.objs.size code).cells.lookup y = some c → c < s.heap.objs.size := fun {y c} e => by
    obtain ⟨v, z⟩ := I.cell _ _ (captured e)
    exact z.lt
  have found : ∀ {y}, scope.names.lookup y = some .free → ∃ c, (gEnvOf X scope s.heap.objs.size code).cells.lookup y = some c ∧ X.env.cells.lookup y = some c := fun {y} hl => by
    obtain ⟨c, e⟩ := mem_lookup (cloFrom_has (cells := X.env.cells) (acc := []) (PySem.mem_of_lookup hl))
    exact ⟨c, e, captured e⟩
  have notCell : ∀ {y}, scope.names.lookup y ≠ some .cell := fun {y} e => ok.nocell _ (PySem.mem_of_lookup e) rfl
  have okG : (gcx X s H scope A' (gEnvOf X scope s.heap.objs.size code) fp).Ok := by
    refine ⟨I.ok.mod, ok.blk.kind, I.ok.glob, rfl, Nat.le_refl _, fun y z c e1 e2 => I.ok.inj y z c (captured e1) (captured e2), fun y hy => ?_, fun y c z e => ?_, fun hc => hA.trans (I.ok.hd hc), hF, .inr ⟨rfl, rfl⟩, fun b hb => ⟨Nat.ne_of_lt (hfp b hb).2, fun y c e z => (hfp b hb).1.2.2.2.2.1 y c (captured e) z⟩, I.bs, Nat.le_trans I.ok.bsz I.sz, fun b o e hb => ?_, fun b hb z => ?_, I.stack, I.stkFree⟩
    · rcases hy with hy | hy
      · exact absurd hy notCell
      · obtain ⟨c, e, _⟩ := found hy
        exact ⟨c, e⟩
    · have z' : (scope.names.lookup y == some NameKind.cell) = true := z
      exact absurd (by simpa using z') (notCell (y := y))
    · rcases (hfp b hb).1.2.2.2.1 with z | z
      · exact I.ok.noex b o e z
      · have lt := Nat.lt_of_lt_of_le (Heap.lt_size e) (Nat.le_trans I.ok.bsz z)
        exact absurd lt (Nat.lt_irrefl _)
    · rcases List.mem_cons.mp (I.stkSub b z) with q | q
      · exact (hfp b hb).1.2.1 q
      · exact (hfp b hb).1.2.2.1 q
  refine ⟨okG, rfl, hg, Un.kept hk, ⟨m0, hns, fun i y av e1 e2 e3 => ?_⟩, fun y c e => ?_, I.hok.fresh (Nat.le_refl _), fun y c e => I.freeC y c (captured e), fun p hp => absurd (show p ∈ ([] : List (Addr × Obj)) ++ [] from hp) (by simp), I.hok.kept hk, by rw [wipe_length]; exact I.len⟩
  · obtain ⟨e2, hne⟩ := wipe_some e2
    have hfr : scope.names.lookup y = some .free := by
      have no : ∀ k, scope.names.lookup y = some k → ¬ (k = .local ∨ k = .cell) := fun k e hh => by
        rcases ok.blk.own _ (PySem.mem_of_lookup e) hh with q | q
        · obtain ⟨p, hp, hpy⟩ := List.mem_map.mp q
          have ei := ok.blk.ix p hp
          rw [show p.1 = y from hpy] at ei
          exact hne (List.mem_map.mpr ⟨p, hp, nodup_ix hN ei e1⟩)
        · exact q (List.mem_of_getElem? e1)
      rcases e3 with e3 | e3 | e3
      · exact absurd (.inl rfl) (no _ e3)
      · exact absurd (.inr rfl) (no _ e3)
      · exact e3
    obtain ⟨m, hn, hl⟩ := I.loc
    have vis : Vis X.env.scope y := by
      rcases ok.blk.free _ (PySem.mem_of_lookup hfr) rfl with k | k
      · exact .inr (.inl k)
      · exact .inr (.inr k)
    obtain ⟨u, r, q⟩ := hl i y av e1 e2 vis
    obtain ⟨c, h1, h2⟩ := found hfr
    refine ⟨u, r, .inr ⟨.inr hfr, c, h1, ?_⟩⟩
    rcases q with ⟨k, _⟩ | ⟨_, c', e', z⟩
    · have k : X.env.scope.names.lookup y = some .local := k
      rcases ok.blk.free _ (PySem.mem_of_lookup hfr) rfl with k' | k'
      · rw [show X.env.scope.names.lookup y = _ from k'] at k
        cases k
      · rw [show X.env.scope.names.lookup y = _ from k'] at k
        cases k
    · rw [h2] at e'
      cases e'
      exact z.keeps hk
  · obtain ⟨w, z⟩ := I.cell y c (captured e)
    exact ⟨w, z.keeps hk⟩

/-! ### the turns -/
/-- what is fixed through the turns: n of them; Pv ahead of each; Qf behind a false one, Qt behind the last -/
structure Plan (G : Cx) (vs : List Nat) (σ0 : L2.St) (tg elt : Expr) (J : It) (fp : List Addr) (it : Addr) (tn : Nat → Heap → Prop) (a : Addr) (go : Obj) (n : Nat) (Pv : Nat → Hp → Prop) (Qf Qt : Hp → Prop) : Prop where
  calm : G.calm = true
  turn : Turn G.prog G.w G.K tg J fp it tn
  hand : G.A.handled = none
  ng : ∀ b ∈ fp, a ≠ b
  step : ∀ i H, i < n → Pv i H → J.go i H
  ends : ∀ H, Pv n H → J.stop n H ∧ Qt H
  xex : G.ex = fp
  xpn : G.pn = []
  co : G.env.scope.isCoroutine = false
  body : ∀ i (H H' : Hp) (x : V) (s : Shared) (u : Value) (pins : List (Addr × Obj)) (E : Value → Shared → Prop), i < n → Pv i H → J.yld i H x H' → Inv G pins σ0 H' s → RelV x u →
    wpAny (model G.prog G.w) G.A (assign tg G.env u) (fun _ s2 => wpAny (model G.prog G.w) G.A (eval elt G.env) (fun y s3 => ∃ (b : Bool) (H3 : Hp), y = .bool b ∧ Inv G pins σ0 H3 s3 ∧ (b = true → Pv (i + 1) H3) ∧ (b = false → Qf H3)) E s2) E s

section
variable {G : Cx} {vs : List Nat} {σ0 : L2.St} {tg elt iter : Expr} {J : It} {fp : List Addr} {it a : Addr} {tn : Nat → Heap → Prop} {go : Obj} {n gn : Nat} {Pv : Nat → Hp → Prop} {Qf Qt : Hp → Prop} {A1 : Around} {scope : Scope} {gp : Pos}

/-- between two turns -/
def Mid (G : Cx) (σ0 : L2.St) (fp : List Addr) (tn : Nat → Heap → Prop) (a : Addr) (go : Obj) (gn i : Nat) (P : Hp → Prop) (s : Shared) : Prop :=
  ∃ H, Inv G [(a, go)] σ0 H s ∧ tn i s.heap ∧ (∀ b ∈ fp, H b = none) ∧ gn < s.gens.size ∧ P H

theorem inv_gens {G : Cx} {pins : List (Addr × Obj)} {σ0 : L2.St} {H : Hp} {s s' : Shared} (I : Inv G pins σ0 H s) (eh : s'.heap = s.heap) (eo : s'.os = s.os) (eb : AllBare s'.gens) : Inv G pins σ0 H s' := by
  refine ⟨I.ok, eo.trans I.os, eb, ?_, ?_, ?_, I.free, I.freeC, ?_, ?_, I.len⟩
  · rw [eh]; exact I.base
  · rw [eh]; exact I.loc
  · rw [eh]; exact I.cell
  · rw [eh]; exact I.pin
  · rw [eh]; exact I.hok
theorem Mid.gens {i : Nat} {P : Hp → Prop} {s s' : Shared} (h : Mid G σ0 fp tn a go gn i P s) (eh : s'.heap = s.heap) (eo : s'.os = s.os) (eb : AllBare s'.gens) (es : gn < s'.gens.size) : Mid G σ0 fp tn a go gn i P s' := by
  obtain ⟨H, I, t, f, g, p⟩ := h
  exact ⟨H, inv_gens I eh eo eb, by rw [eh]; exact t, f, es, p⟩

def yP (G : Cx) (σ0 : L2.St) (fp : List Addr) (tn : Nat → Heap → Prop) (a : Addr) (go : Obj) (gn n : Nat) (Pv : Nat → Hp → Prop) (Qf : Hp → Prop) : Protocol := fun m _ v s kap =>
  ∃ (i : Nat) (b : Bool), v = .bool b ∧ i < n ∧ i + m = n ∧ (b = false → Mid G σ0 fp tn a go gn (i + 1) Qf s) ∧
    (b = true → Mid G σ0 fp tn a go gn (i + 1) (Pv (i + 1)) s ∧ ∀ s'' : Shared, s''.heap = s.heap → s''.os = s.os → AllBare s''.gens → gn < s''.gens.size → kap (.send .none) s'')
def rP (G : Cx) (σ0 : L2.St) (fp : List Addr) (tn : Nat → Heap → Prop) (a : Addr) (go : Obj) (gn : Nat) (Qt : Hp → Prop) : Nat → Shared → Shared → Prop := fun m _ s => m = 1 ∧ ∃ H, Inv G [(a, go)] σ0 H s ∧ gn < s.gens.size ∧ Qt H

theorem fpok {σ' : L2.St} {H' : Hp} {s' : Shared} (P : Plan G vs σ0 tg elt J fp it tn a go n Pv Qf Qt) (I' : Inv G [(a, go)] σ' H' s') (hn : ∀ b ∈ fp, H' b = none) : ∀ b ∈ fp, FpOk G [(a, go)] H' b := fun b hb => by
  have hx : b ∈ G.ex := by rw [P.xex]; exact hb
  refine ⟨hn b hb, (I'.ok.exf b hx).1, I'.ok.exfs b hx, .inl hx, fun x c e => (I'.ok.exf b hx).2 x c e, fun p hp => ?_⟩
  rw [P.xpn] at hp
  have e : p = (a, go) := by simpa using hp
  rw [e]
  exact P.ng b hb

theorem seg_turns (P : Plan G vs σ0 tg elt J fp it tn a go n Pv Qf Qt) (hA : A1.over (.compLoop (.GeneratorExp elt [⟨tg, iter, [], 0⟩] scope gp) 0 (.ref it) .none G.env) [] = G.A) :
    ∀ (k i : Nat) (s₀ s : Shared), n - i = k → i ≤ n → Mid G σ0 fp tn a go gn i (Pv i) s →
      Seg (model G.prog G.w) A1 (fun m s₀ r s₁ => r = .ok .next ∧ rP G σ0 fp tn a go gn Qt m s₀ s₁) (yP G σ0 fp tn a go gn n Pv Qf) (n - i + 1) s₀
        (.compLoop (.GeneratorExp elt [⟨tg, iter, [], 0⟩] scope gp) 0 (.ref it) .none G.env)
        ((model G.prog G.w).den (.compLoop (.GeneratorExp elt [⟨tg, iter, [], 0⟩] scope gp) 0 (.ref it) .none G.env)) [] s := by
  intro k
  induction k with
  | zero =>
    intro i s₀ s hk hi ⟨H, I, ht, hf, hg, hp⟩
    have hin : i = n := by omega
    subst hin
    show Seg _ A1 _ _ _ s₀ _ ((compTurn (.GeneratorExp elt [⟨tg, iter, [], 0⟩] scope gp) 0 (.ref it) .none G.env).onRaise (leaving G.env)) [] s
    rw [compTurn_gen, Sem.onRaise_eq_wrap]
    refine seg_bind_wrap (wpAny_standAt ?_)
    refine seg_bind_wrap ?_
    rw [hA]
    refine GenW.wpAny_gsz (n := gn + 1) hg ?_
    refine wpAny_mono (P.turn.done G rfl rfl rfl P.calm i _ s _ H (fun _ _ => False) I (fpok P I hf) ht (P.ends H hp).1) (fun r s1 ⟨hr, I1⟩ hsz => ?_) fun _ _ z => z.elim
    subst hr
    refine seg_end (.ok .next) ⟨rfl, by omega, H, I1, hsz, (P.ends H hp).2⟩
  | succ k ih =>
    intro i s₀ s hk hi ⟨H, I, ht, hf, hg, hp⟩
    have hlt : i < n := by omega
    obtain ⟨m, hm⟩ : ∃ m, n - i = m + 1 := ⟨n - i - 1, by omega⟩
    rw [hm]
    show Seg _ A1 _ _ _ s₀ _ ((compTurn (.GeneratorExp elt [⟨tg, iter, [], 0⟩] scope gp) 0 (.ref it) .none G.env).onRaise (leaving G.env)) [] s
    rw [compTurn_gen, Sem.onRaise_eq_wrap]
    refine seg_bind_wrap (wpAny_standAt ?_)
    refine seg_bind_wrap ?_
    rw [hA]
    refine GenW.wpAny_gsz (n := gn + 1) hg ?_
    refine wpAny_mono (P.turn.item G rfl rfl rfl P.calm i _ s _ H (fun _ _ => False) I (fpok P I hf) ht (P.step i H hlt hp)) (fun r s1 ⟨u, hr, h1⟩ hs1 => ?_) fun _ _ z => z.elim
    subst hr
    refine seg_bind_wrap ?_
    rw [hA]
    refine GenW.wpAny_gsz (n := gn + 1) hs1 ?_
    refine wpAny_mono h1 (fun _ s2 ⟨x, H2, I2, r2, y2, t2, f2⟩ hs2 => ?_) fun _ _ z => z.elim
    refine seg_bind_wrap ?_
    rw [hA]
    have I2p := I2.pinned (fpok P I2 f2) (P.turn.obj _ _ t2)
    refine GenW.wpAny_gsz (n := gn + 1) hs2 ?_
    refine wpAny_mono (P.body i H H2 x s2 u _ (fun _ _ => False) hlt hp y2 I2p r2) (fun _ s3 h3 hs3 => ?_) fun _ _ z => z.elim
    refine seg_bind_wrap (wpAny_tests_nil ?_)
    simp only [if_true]
    have hy : ∀ v, yieldOut G.env v = yieldValue v := fun v => by simp only [yieldOut, P.co, Bool.false_eq_true, if_false]
    simp only [hy]
    rw [Sem.bind_eq_wrap', Sem.bind_eq_wrap', Sem.wrap_wrap, Sem.wrap_wrap]
    refine seg_wrap ?_
    rw [hA]
    refine GenW.wpAny_gsz (n := gn + 1) hs3 ?_
    refine wpAny_mono h3 (fun y s4 ⟨b, H4, e4, I4, pt, pf⟩ hs4 => ?_) fun _ _ z => z.elim
    subst e4
    have pin' : ∀ c ∈ fp, ∀ o, s2.heap.get? c = some o → s4.heap.get? c = some o ∧ H4 c = none := fun c hc o e =>
      let z := I4.pin (c, o) (List.mem_append_right _ (List.mem_append_right _ (mem_pinsAt hc e)))
      ⟨z.1, z.2.1⟩
    have mid : ∀ (Q : Hp → Prop), Q H4 → Mid G σ0 fp tn a go gn (i + 1) Q s4 := fun Q q =>
      ⟨H4, I4.unpinned, P.turn.keep _ _ _ t2 fun c hc o e => (pin' c hc o e).1, fun c hc => by
        obtain ⟨o, e, _⟩ := P.turn.obj _ _ t2 c hc
        exact (pin' c hc o e).2, hs4, q⟩
    refine seg_at (seg_yield rfl rfl rfl ⟨i, b, rfl, hlt, by omega, fun hb => mid Qf (pf hb), fun hb => ⟨mid _ (pt hb), fun s'' e1 e2 e3 e4 => ?_⟩⟩)
    refine seg_again rfl ?_
    have em : m + 1 = n - (i + 1) + 1 := by omega
    rw [em]
    exact ih (i + 1) s'' s'' (by omega) hlt ((mid _ (pt hb)).gens e1 e2 e3 e4)

theorem seg_first (P : Plan G vs σ0 tg elt J fp it tn a go n Pv Qf Qt) (hA : A1.over (.compLoop (.GeneratorExp elt [⟨tg, iter, [], 0⟩] scope gp) 0 (.ref it) .none G.env) [] = G.A)
    (s₀ s : Shared) (h : Mid G σ0 fp tn a go gn 0 (Pv 0) s) :
    Seg (model G.prog G.w) A1 (fun m s₀ r s₁ => r = .ok .next ∧ rP G σ0 fp tn a go gn Qt m s₀ s₁) (yP G σ0 fp tn a go gn n Pv Qf) (n + 1) s₀
      (.compStart (.GeneratorExp elt [⟨tg, iter, [], 0⟩] scope gp) 0 (.ref it) .none G.env)
      ((model G.prog G.w).den (.compStart (.GeneratorExp elt [⟨tg, iter, [], 0⟩] scope gp) 0 (.ref it) .none G.env)) [] s := by
  have loop := seg_turns (iter := iter) (scope := scope) (gp := gp) P hA n 0 s₀ s (Nat.sub_zero _) (Nat.zero_le _) h
  rw [Nat.sub_zero] at loop
  obtain ⟨H, I, ht, _⟩ := h
  show Seg _ A1 _ _ _ s₀ _ ((compStart (.GeneratorExp elt [⟨tg, iter, [], 0⟩] scope gp) 0 (.ref it) .none G.env).onRaise (leaving G.env)) [] s
  unfold compStart
  rw [Sem.onRaise_eq_wrap]
  show Seg _ A1 _ _ _ s₀ _ ((ask >>= _).wrap _ _ _ _) [] s
  refine seg_bind_wrap (wpAny_askSetting ?_)
  split
  · exact seg_again rfl loop
  · refine seg_bind_wrap (wpAny_rule ?_)
    show Seg _ A1 _ _ _ s₀ _ ((standAt iter.pos >>= _).wrap _ _ _ _) [] s
    refine seg_bind_wrap (wpAny_standAt ?_)
    exact seg_bind_wrap (P.turn.self _ 0 _ _ _ ht (seg_again rfl loop))

/-- asleep ahead of turn i -/
def Asleep (G : Cx) (σ0 : L2.St) (fp : List Addr) (tn : Nat → Heap → Prop) (a : Addr) (go : Obj) (gn n : Nat) (Pv : Nat → Hp → Prop) (Qf Qt : Hp → Prop) (A1 : Around) (i : Nat) (s : Shared) : Prop :=
  Mid G σ0 fp tn a go gn i (Pv i) s ∧ ∃ gs, s.gens[gn]? = some gs ∧ ∀ s'' : Shared, s''.heap = s.heap → s''.os = s.os → AllBare s''.gens → gn < s''.gens.size →
    gs.Goes (model G.prog G.w) A1 (fun m s₀ r s₁ => r = .ok .next ∧ rP G σ0 fp tn a go gn Qt m s₀ s₁) (yP G σ0 fp tn a go gn n Pv Qf) (n - i + 1) (.send .none) s''

theorem size_setGen (s : Shared) (g : Nat) (x : GenState) : (s.setGen g x).gens.size = s.gens.size := by simp [Shared.setGen]

theorem all_turns {A0 : Around} {R : Result → Shared → Prop} (hA1 : A1 = A0.in1.in1) (h0 : A0.handled = none) (hd : A0.depth < recursionLimit) (hgo : ∀ h : Heap, h.get? a = some go → h.IsGen a gn)
    (hf : ∀ H s, Inv G [(a, go)] σ0 H s → Qf H → R (.ok (.ret (.bool false))) s) (ht : ∀ H s, Inv G [(a, go)] σ0 H s → Qt H → R (.ok (.ret (.bool true))) s)
    (hkeep : ∀ H s h', Inv G [(a, go)] σ0 H s → (∀ b o, s.heap.get? b = some o → h'.get? b = some o) → Inv G [(a, go)] σ0 H { s with heap := h' }) :
    ∀ (k i : Nat) (s : Shared), n - i = k → i ≤ n → Asleep G σ0 fp tn a go gn n Pv Qf Qt A1 i s → codeAny (model G.prog G.w) A0 (.builtin "all.loop" ⟨[.ref a], []⟩) R s := by
  intro k
  induction k with
  | zero =>
    intro i s hk hi ⟨⟨H, I, t, f, g, p⟩, gs, hgs, hgoes⟩
    refine codeAny_builtin F.entry_all_loop ?_
    rw [Around.under_plainId F.plain_all_loop _]
    show wpAny _ A0.in1 (pyNext (.ref a) >>= _) _ _ s
    have pin := I.pin (a, go) (List.mem_append_right _ (by simp))
    have goes := hgoes (s.setGen gn .running) rfl rfl (allBare_setGen I.bare rfl) (by rw [size_setGen]; exact g)
    rw [hk, hA1] at goes
    refine wpAny_bind (wpAny_pyNext_genexpQ (P := rP G σ0 fp tn a go gn Qt) (show A0.in1.handled = none from h0) I.nolimit (show A0.in1.depth < recursionLimit from hd) (hgo _ pin.1) hgs goes (fun v s₁ gs' _ hv => ?_) (fun s₁ hp h' hk' => ?_))
    · obtain ⟨j, b, _, e1, e2, _⟩ := hv
      exfalso
      omega
    · obtain ⟨_, H1, I1, g1, q1⟩ := hp
      refine wpAny_bind (wpAny_rule (wpAny_pure ?_))
      have I2 : Inv G [(a, go)] σ0 H1 (s₁.setGen gn .finished) := inv_gens I1 rfl rfl (allBare_setGen I1.bare rfl)
      exact ht H1 _ (hkeep _ _ _ I2 hk') q1
  | succ k ih =>
    intro i s hk hi ⟨⟨H, I, t, f, g, p⟩, gs, hgs, hgoes⟩
    refine codeAny_builtin F.entry_all_loop ?_
    rw [Around.under_plainId F.plain_all_loop _]
    show wpAny _ A0.in1 (pyNext (.ref a) >>= _) _ _ s
    have pin := I.pin (a, go) (List.mem_append_right _ (by simp))
    have goes := hgoes (s.setGen gn .running) rfl rfl (allBare_setGen I.bare rfl) (by rw [size_setGen]; exact g)
    rw [hk, hA1] at goes
    refine wpAny_bind (wpAny_pyNext_genexpQ (P := rP G σ0 fp tn a go gn Qt) (show A0.in1.handled = none from h0) I.nolimit (show A0.in1.depth < recursionLimit from hd) (hgo _ pin.1) hgs goes (fun v s₁ gs' hbare hv => ?_) (fun s₁ hp h' hk' => ?_))
    · obtain ⟨j, b, rfl, e1, e2, hvf, hvt⟩ := hv
      refine wpAny_bind (wpAny_holding (wpAny_truthy_bool ?_))
      refine wpAny_bind (wpAny_letGo ?_)
      cases b with
      | false =>
        simp only [Bool.false_eq_true, if_false]
        refine wpAny_bind (wpAny_rule (wpAny_pure ?_))
        obtain ⟨H1, I1, _, _, g1, q1⟩ := hvf rfl
        exact hf H1 _ (inv_gens I1 rfl rfl (allBare_setGen I1.bare hbare)) q1
      | true =>
        simp only [if_true]
        obtain ⟨md, kap⟩ := hvt rfl
        have ej : j = i := by omega
        subst ej
        have bare1 : AllBare (s₁.setGen gn gs').gens := by
          obtain ⟨_, I1, _⟩ := md
          exact allBare_setGen I1.bare hbare
        have sz1 : gn < s₁.gens.size := by
          obtain ⟨_, _, _, _, g1, _⟩ := md
          exact g1
        refine wpAny_pure ⟨plainId_quiet F.plain_all_loop _, ih (j + 1) _ (by omega) (by omega) ⟨md.gens rfl rfl bare1 (by rw [size_setGen]; exact sz1), gs', setGen_at sz1, fun s'' e1 e2 e3 e4 => ?_⟩⟩
        have kk := kap s'' e1 e2 e3 e4
        have en : n - (j + 1) + 1 = k + 1 := by omega
        rw [en, hA1]
        exact kk
    · exact absurd hp.1 (by omega)
end
end
end LG

namespace LG
open PySem PySem.Spec PyProof.Rows L2 GxR

/-- all(e for x in ..): P the table of the def's code -/
def tAllG (wi : TI) (g : TG) (te : TE) (P : Addr) (vs : List Nat) : TE := fun σ H Q => wi σ H fun J H1 => TabG H1 P ∧ ∀ H2, Tabbed P H1 H2 → ∃ (n : Nat) (Pv : Nat → Hp → Prop), Pv 0 H2 ∧
  (∀ i H, i < n → Pv i H → J.go i H ∧ ∀ x H', J.yld i H x H' → g x (wipe σ vs) H' fun σ2 H3 => wipe σ2 vs = wipe σ vs ∧ te σ2 H3 fun y H4 => ∃ b, y = .bl b ∧ (b = true → Pv (i + 1) H4) ∧ (b = false → Q (.bl false) H4)) ∧
  ∀ H, Pv n H → J.stop n H ∧ Q (.bl true) H

theorem room_g {X : Cx} {k : Nat} (hr : Room (k + 1) X.A) {gE : Expr} {it : Value} {ge : Env} (h1 : (gAr X gE it ge).handled = X.A.handled) (h2 : (gAr X gE it ge).depth = X.A.depth + 1) (h3 : (gAr X gE it ge).units = X.A.units + 5) : Room k (gAr X gE it ge) := by
  refine ⟨by rw [h1]; exact hr.hd, ?_, ?_⟩
  · rw [h2]
    have := hr.dp
    omega
  · rw [h3]
    have := hr.un
    omega

theorem call_all_gen {X : Cx} {A1 : Around} {pins : List (Addr × Obj)} {σ : L2.St} {H4 : Hp} {s4 s5 : Shared} {G : Cx} {vs : List Nat} {tg elt iter : Expr} {scope : Scope} {gp : Pos} {J : It} {fp : List Addr} {it a : Addr} {tn : Nat → Heap → Prop} {go : Obj} {n gn : Nat} {Pv : Nat → Hp → Prop} {Q : VK}
    (eP : G.prog = X.prog) (ew : G.w = X.w) (eH : G.H_0 = H4) (es : G.s_0 = s4) (eo : G.outer = X.stack) (hr : X.A.handled = none) (hd : X.A.depth < recursionLimit)
    (P : Plan G vs (wipe σ vs) tg elt J fp it tn a go n Pv (Q (.bl false)) (Q (.bl true))) (hA : X.A.in1.in1.over (.compLoop (.GeneratorExp elt [⟨tg, iter, [], 0⟩] scope gp) 0 (.ref it) .none G.env) [] = G.A)
    (I4 : Inv X pins σ H4 s4) (hch : ∀ b ∈ fp, (b ∈ X.ex ∨ X.s_0.heap.objs.size ≤ b) ∧ b ≠ X.env.locals ∧ (∀ x c, X.env.cells.lookup x = some c → c ≠ b) ∧ ∀ p ∈ X.pn ++ pins, p.1 ≠ b)
    (hgo : ∀ h : Heap, h.get? a = some go → h.IsGen a gn) (hgs : s5.gens[gn]? = some (.fresh (.compStart (.GeneratorExp elt [⟨tg, iter, [], 0⟩] scope gp) 0 (.ref it) .none G.env))) (h : Mid G (wipe σ vs) fp tn a go gn 0 (Pv 0) s5) :
    wpAny (model X.prog X.w) X.A (call (.builtin "all") [.ref a]) (EP X pins σ Q) X.xe s5 := by
  refine call_function_tree F.kind_all F.plain_all F.entry_all (F.args_all1 _) ?_
  unfold Builtin.«all»
  refine wpAny_bind (m := oneArg "all" _) (wpAny_pure ?_)
  obtain ⟨H, I, ht, hf, hg, hp⟩ := id h
  have pin := I.pin (a, go) (List.mem_append_right _ (by simp))
  refine wpAny_bind (wpAny_pyIter_gen (hgo _ pin.1) ?_)
  refine wpAny_pure ⟨plainId_quiet F.plain_all_loop _, ?_⟩
  have back : ∀ (b : Bool) (H' : Hp) (s' : Shared), Inv G [(a, go)] (wipe σ vs) H' s' → Q (.bl b) H' → EP X pins σ Q (.bool b) s' := fun b H' s' I' q => by
    have un : Un (frs X.stack) fp H4 H' s4.heap s'.heap := by
      have u := I'.base
      rw [eH, es, P.xex] at u
      rw [← eo]
      exact u
    have os : s'.os = s4.os := by
      rw [← es]
      exact I'.os
    have ok : HOk X.prog X.w H' s'.heap := by
      rw [← eP, ← ew]
      exact I'.hok
    exact ⟨.bl b, H', I4.call' (ch := fp) os un ok I'.bare hch, rfl, q⟩
  have run := all_turns (G := G) (σ0 := wipe σ vs) (fp := fp) (tn := tn) (a := a) (go := go) (n := n) (gn := gn) (Pv := Pv) (Qf := Q (.bl false)) (Qt := Q (.bl true)) (A1 := X.A.in1.in1) (A0 := X.A)
    (R := fun r s' => match r with | .ok (.ret v) => EP X pins σ Q v s' | .ok _ => False | .error e => X.xe e s') rfl hr hd hgo (fun H' s' I' q => back false H' s' I' q) (fun H' s' I' q => back true H' s' I' q)
    (fun H' s' h' I' k => I'.kept (t' := s'.toks) k) n 0 s5 (Nat.sub_zero _) (Nat.zero_le _) ⟨h, _, hgs, fun s'' e1 e2 e3 e4 => ⟨rfl, ?_⟩⟩
  · rw [eP, ew] at run
    exact run
  · rw [Nat.sub_zero]
    exact seg_first P hA s'' s'' (h.gens e1 e2 e3 e4)

theorem pe_allG {X : Cx} {c P : Addr} {elt iter tg : Expr} {p pos gpos : Pos} {scope : Scope} {own : List (Str × Nat)} {wi : TI} {g : TG} {te : TE} {k : Nat}
    (hc : X.calm = true) (hN : X.N.Nodup) (hr : Room (k + 1) X.A) (hg : Gl X "all") (hm : X.mg "all" = none) (TB : TabB X.base X.mg c P) (hcode : X.env.code = .ref c) (ok : GOk X.N X.env.scope scope own) (hi : PI X tg iter wi)
    (pg : ∀ (s : Shared) (H : Hp) (A' : Around) (C : Addr) (code : Value) (fp : List Addr), PG (gcx X s H scope A' (gEnvOf X scope C code) fp) tg g)
    (pe : ∀ (s : Shared) (H : Hp) (A' : Around) (C : Addr) (code : Value) (fp : List Addr), Room k A' → PE (gcx X s H scope A' (gEnvOf X scope C code) fp) elt te)
    (hs : ∀ v, genFold iter X.env v = pure v := by intro _; rfl) (hb : bootBuiltins "all" = some (.builtin "all") := by decide +kernel)
    (he : starEach [.GeneratorExp elt [⟨tg, iter, [], 0⟩] scope gpos] X.env = (false, eval (.GeneratorExp elt [⟨tg, iter, [], 0⟩] scope gpos) X.env) :: starEach [] X.env := by rfl) :
    PE X (.Call (.Name "all" p) [.GeneratorExp elt [⟨tg, iter, [], 0⟩] scope gpos] [] pos) (tAllG wi g te P (own.map (·.2))) := by
  refine ⟨fun pins s σ H Q I h => ?_⟩
  refine wpAny_Call_Name_kw (ld_blt I hg hm hb ?_)
  refine PyProof.Rows.callWith_builtin1 ?_ he (by rfl)
  rw [he]
  show wpAny _ _ (spliced ((false, eval (.GeneratorExp elt [⟨tg, iter, [], 0⟩] scope gpos) X.env) :: backTo pos (starEach [] X.env))) _ _ s
  refine Calls.spliced_cons ?_
  have captured : ∀ y ∈ scope.names, y.2 = .free → ∃ c, X.env.cells.lookup y.1 = some c := fun y hy e => by
    rcases ok.blk.free y hy e with q | q
    · exact I.ok.has _ (.inl q)
    · exact I.ok.has _ (.inr q)
  refine wpAny_GeneratorExp_make ok.co (closure_ok captured) ok.nocell ok.dot ok.blk.kind (by have := hr.dp; omega) ?_ hs
  refine thn (hi.run pins s σ H _ I h) fun xv s1 hx => thn hx fun itv s2 ⟨it, fp, tn, J, H2, e, I2, T, st2, f2, hT, q⟩ => ?_
  subst e
  refine ⟨I2.nolimit, ?_⟩
  obtain ⟨ps, hP, htri⟩ := hT
  have hPs : s2.heap.get? P = some { cls := .none, data := .fields ps } := I2.hok P _ hP
  have nP : ∀ b, H2 b = none → b ≠ P := fun b e z => by
    rw [z, hP] at e
    cases e
  have cd : PySem.W.CodeHd s2.heap c P := TB.code.keeps fun b u e => I2.bk b u e
  have cont : ∀ (code : Value) (h3 : Heap) (tk : Nat) (more : Array Value), Heap.ExtBut P s2.heap h3 → h3.get? P = some { cls := .none, data := .fields (ps ++ more) } → TriplesOk (ps ++ more).toList →
      wpAny (model X.prog X.w) X.A (builtinsFor X.env.globals X.env.builtins) (fun bi s₄ => ∀ h' : Heap, h'.Ns s₄.heap.objs.size (fun y => if y = ".0" then some (.ref it) else none) → Heap.SameBut s₄.heap.objs.size (s₄.heap.push { cls := .type "frame", data := .dict #[] }) h' →
        wpAny (model X.prog X.w) X.A (spliced (backTo pos (starEach [] X.env))) (fun vs s₂ => wpAny (model X.prog X.w) X.A (call (.builtin "all") (.ref h'.objs.size :: vs)) (EP X pins σ Q) X.xe s₂) X.xe
          { s₄ with gens := s₄.gens.push (.fresh (.compStart (.GeneratorExp elt [⟨tg, iter, [], 0⟩] scope gpos) 0 (.ref it) .none (genEnv scope (cloFrom X.env.cells scope.names []) s₄.heap.objs.size code bi X.env))), toks := s₄.toks + 1 + 1 + 1,
                    heap := h'.push { cls := .type "generator", data := .fields #[.int s₄.gens.size 0, .str "<genexpr>" (s₄.toks + 1), .str (X.env.qual ++ "<genexpr>") (s₄.toks + 1 + 1)] } }) X.xe { s2 with heap := h3, toks := tk } := by
    intro code h3 tk more hx hP3 ht3
    obtain ⟨bm, ob, e1, e2, e3, e4, e5, e6, e7, e8⟩ := TB.bm
    refine wpAny_builtinsFor (m := X.mg) (by rw [I2.ok.glob]; exact (I2.mod.glob.keeps I2.bk).extBut hx TB.gP) e1 e2 (hx _ _ e4 (I2.bk _ _ e5)) e6 e7 e8 ?_
    intro h' hns hsame
    refine Calls.spliced_nil ?_
    have I4 : Inv X pins σ (upd H2 P (.tbl (ps ++ more))) { s2 with heap := h3, toks := tk } := inv_tab (g' := s2.gens) (d' := s2.drawn) I2 hP (fun b o hb e => hx b o hb e) hP3 I2.bare
    have tb : Tabbed P H2 (upd H2 P (.tbl (ps ++ more))) := ⟨⟨_, upd_same, ht3⟩, fun b hb => upd_ne hb⟩
    obtain ⟨n, Pv, p0, pstep, pend⟩ := q _ tb
    generalize upd H2 P (.tbl (ps ++ more)) = H4 at I4 tb p0
    generalize hs4 : ({ s2 with heap := h3, toks := tk } : Shared) = s4 at I4 hns hsame ⊢
    have hh4 : s4.heap = h3 := by rw [← hs4]
    have st4 : tn 0 s4.heap := T.keep _ _ _ st2 fun b hb o e => by
      rw [hh4]
      exact hx b o (nP b (f2 b hb).1) e
    have sz4 : ∀ b ∈ fp, b < s4.heap.objs.size := fun b hb => by
      obtain ⟨o, e, _⟩ := T.obj _ _ st4 b hb
      exact Heap.lt_size e
    have f4 : ∀ b ∈ fp, FpOk X pins H4 b ∧ b < s4.heap.objs.size := fun b hb => by
      refine ⟨⟨?_, (f2 b hb).2⟩, sz4 b hb⟩
      rw [tb.2 b (nP b (f2 b hb).1)]
      exact (f2 b hb).1
    have keep4 : ∀ b o, s4.heap.get? b = some o → h'.get? b = some o := fun b o e => by
      have lt := Heap.lt_size e
      rw [hsame.2 b (Nat.ne_of_lt lt)]
      exact Heap.get?_push_of_some _ e
    have szh : h'.objs.size = s4.heap.objs.size + 1 := by rw [hsame.1, Heap.size_push]
    generalize hgo : ({ cls := .type "generator", data := .fields #[.int s4.gens.size 0, .str "<genexpr>" (s4.toks + 1), .str (X.env.qual ++ "<genexpr>") (s4.toks + 1 + 1)] } : Obj) = go
    have kgo : ∀ b o, s4.heap.get? b = some o → (h'.push go).get? b = some o := fun b o e => Heap.get?_push_of_some _ (keep4 b o e)
    have nsgo : (h'.push go).Ns s4.heap.objs.size (fun y => if y = ".0" then some (.ref it) else none) := hns.keeps fun b o e => Heap.get?_push_of_some _ e
    generalize hge : gEnvOf X scope s4.heap.objs.size code = ge
    have hge' : genEnv scope (cloFrom X.env.cells scope.names []) s4.heap.objs.size code builtinsNs X.env = ge := hge
    rw [hge']
    have geC : ge.locals = s4.heap.objs.size := by
      rw [← hge]
      rfl
    have gfree : go.isFreed = false := by
      rw [← hgo]
      rfl
    have I5 := gen_start (A' := gAr X (.GeneratorExp elt [⟨tg, iter, [], 0⟩] scope gpos) (.ref it) ge) (code := code) (h' := h'.push go) (g' := s4.gens.push (.fresh (.compStart (.GeneratorExp elt [⟨tg, iter, [], 0⟩] scope gpos) 0 (.ref it) .none ge))) (tk := s4.toks + 1 + 1 + 1)
      I4 ok hN f4 rfl (by rw [hge]; exact gAr_frames I4.ok.frames) kgo nsgo (I4.bare.push rfl)
    have pg' := pg s4 H4 (gAr X (.GeneratorExp elt [⟨tg, iter, [], 0⟩] scope gpos) (.ref it) ge) s4.heap.objs.size code fp
    have pe' := pe s4 H4 (gAr X (.GeneratorExp elt [⟨tg, iter, [], 0⟩] scope gpos) (.ref it) ge) s4.heap.objs.size code fp (room_g hr rfl rfl rfl)
    rw [hge] at I5 pg' pe'
    have aC : h'.objs.size ≠ s4.heap.objs.size := by
      rw [szh]
      exact Nat.succ_ne_self _
    have aOld : ∀ b, b < s4.heap.objs.size → h'.objs.size ≠ b := fun b hb z => by
      rw [← z, szh] at hb
      exact absurd hb (Nat.not_lt.mpr (Nat.le_succ _))
    have fpa : ∀ b ∈ [h'.objs.size], FpOk (gcx X s4 H4 scope (gAr X (.GeneratorExp elt [⟨tg, iter, [], 0⟩] scope gpos) (.ref it) ge) ge fp) [] H4 b := fun b hb => by
      have eb : b = h'.objs.size := by simpa using hb
      rw [eb]
      refine ⟨I4.hok.fresh (by rw [szh]; exact Nat.le_succ _), by show h'.objs.size ≠ ge.locals; rw [geC]; exact aC, fun z => ?_, .inr (by show s4.heap.objs.size ≤ _; rw [szh]; exact Nat.le_succ _), fun x c e => ?_, fun p hp => absurd (show p ∈ ([] : List (Addr × Obj)) ++ [] from hp) (by simp)⟩
      · rcases List.mem_cons.mp (I4.stkSub _ z) with q | q
        · exact aOld _ I4.lt q
        · exact I4.nofs (by rw [szh]; exact Nat.le_succ _) q
      · obtain ⟨v, z⟩ := I5.cell x c e
        have hcl : c < s4.heap.objs.size := by
          rw [← hge] at e
          rcases cloFrom_mem (PySem.mem_of_lookup (show (cloFrom X.env.cells scope.names []).lookup x = some c from e)) with hm | ⟨h1, rfl⟩
          · cases hm
          · obtain ⟨c', hc'⟩ := captured _ h1 rfl
            rw [hc']
            obtain ⟨v', z'⟩ := I4.cell _ _ hc'
            exact z'.lt
        exact (aOld c hcl).symm
    have I6 := I5.pinned fpa (fun b hb => by
      have eb : b = h'.objs.size := by simpa using hb
      rw [eb]
      refine ⟨go, Heap.get?_push_size _ gfree, fun v z => ?_⟩
      rw [← hgo] at z
      cases z)
    have epin : ([] : List (Addr × Obj)) ++ pinsAt [h'.objs.size] (h'.push go) = [(h'.objs.size, go)] := by
      unfold pinsAt
      rw [List.filterMap_cons, Heap.get?_push_size _ gfree]
      rfl
    rw [epin] at I6
    have un4 : ∀ b ∈ fp, (b ∈ X.ex ∨ X.s_0.heap.objs.size ≤ b) ∧ b ≠ X.env.locals ∧ (∀ x c, X.env.cells.lookup x = some c → c ≠ b) ∧ ∀ p ∈ X.pn ++ pins, p.1 ≠ b := fun b hb =>
      ⟨(f4 b hb).1.2.2.2.1, (f4 b hb).1.2.1, (f4 b hb).1.2.2.2.2.1, (f4 b hb).1.2.2.2.2.2⟩
    refine call_all_gen (A1 := X.A) (G := gcx X s4 H4 scope (gAr X (.GeneratorExp elt [⟨tg, iter, [], 0⟩] scope gpos) (.ref it) ge) ge fp) (vs := own.map (·.2)) (J := J) (fp := fp) (it := it) (tn := tn) (go := go) (n := n) (gn := s4.gens.size) (Pv := Pv) (iter := iter) (scope := scope) (gp := gpos) (s4 := s4)
      rfl rfl rfl rfl rfl hr.hd (by have := hr.dp; omega) ⟨hc, T, hr.hd, fun b hb => aOld b (sz4 b hb), fun i H' hi hp => (pstep i H' hi hp).1, pend, rfl, rfl, by show ge.scope.isCoroutine = false; rw [← hge]; exact ok.co, ?_⟩ rfl I4 un4 (fun h e => ⟨go, _, _, e, by rw [← hgo], by rw [← hgo], by rw [← hgo]⟩) ?_
      ⟨H4, I6, T.keep _ _ _ st4 fun b _ o e => kgo b o e, fun b hb => (f4 b hb).1.1, ?_, p0⟩
    · intro i Ha Hb x sA u pinsA E hi hp hy IA ru
      refine wpAny_mono (pg'.run pinsA sA _ Hb x u _ IA ru ((pstep i Ha hi hp).2 x Hb hy)) (fun _ sB ⟨σB, HB, IB, ew, qB⟩ => ?_) fun _ _ z => z.elim
      refine wpAny_mono (pe'.run pinsA sB σB HB _ IB qB) (fun y sC ⟨v, HC, IC, rC, b, ev, hT, hF⟩ => ?_) fun _ _ z => z.elim
      subst ev
      refine ⟨b, HC, rC, IC.weak ?_ (fun j v e => ?_), hT, hF⟩
      · have l1 := wipe_length σ (own.map (·.2))
        have l2 := wipe_length σB (own.map (·.2))
        rw [ew] at l2
        omega
      · rw [← ew] at e
        exact (wipe_some e).1
    · show (s4.gens.push _)[s4.gens.size]? = _
      simp
    · show s4.gens.size < (s4.gens.push _).size
      rw [Array.size_push]
      exact Nat.lt_succ_self _
  cases hf : codeAmong gpos ps.toList with
  | none =>
    refine wpAny_genexprCodeX hcode (cd.code hPs htri) (cd.tab hPs) hf fun c' h' tk hx hge hlt hco' _ htab' _ => ?_
    obtain ⟨o1, vs, f1, tf, fl, tg', inF, tx, tt, op, _, _, _, _, _, _, _, _, _, htr, _⟩ := hco'
    exact cont _ h' tk _ hx htab'.2 htr
  | some cv =>
    refine wpAny_genexprCode_hit hcode (cd.code hPs htri) hf ?_
    have := cont cv s2.heap s2.toks #[] (Heap.ExtBut.refl _ _) (by simpa using hPs) (by simpa using htri)
    exact this
end LG

/-! Plain data over the hand layer: what an expression, a statement, a def makes of plain data, as a function -/
namespace PD
open PySem PySem.Spec PyProof.Rows L2 GxR

/-! ### dicts: keys that are tuples of ints, None and such tuples -/
/-- a key without texts -/
inductive Plk : NestedKey → Prop
  | none : Plk .none
  | num (i : Int) : Plk (.num i)
  | tup {ks : List NestedKey} : (∀ k ∈ ks, Plk k) → Plk (.tup ks)
/-- an entry as it lies in the heap -/
def dEnt (w : World) (q : NestedKey × Addr × Value) : DictEntry := ⟨q.1.hash w, .ref q.2.1, q.2.2⟩
/-- .. and its value without tokens -/
def DeR (p : NestedKey × Addr × V) (q : NestedKey × Addr × Value) : Prop := p.1 = q.1 ∧ p.2.1 = q.2.1 ∧ RelV p.2.2 q.2.2
/-- the object of a dict -/
def DctO (a : Addr) (xs : List (NestedKey × Addr × V)) : Heap → Prop := fun h => (a == sysModules) = false ∧ xs.length ≤ sizeLine ∧ (xs.map (·.1)).Nodup ∧ (∀ x ∈ xs, Plk x.1 ∧ x.1.depth ≤ 8) ∧ ∃ (w : World) (us : List (NestedKey × Addr × Value)) (o : Obj) (es : Array DictEntry) (ep : Nat),
  Paired DeR xs us ∧ h.get? a = some o ∧ o.ExactDict ∧ o.data = .dict es ep ∧ es.toList = us.map (dEnt w)
abbrev DkO (a : Addr) (xs : List (NestedKey × Addr × V)) : HO := .ext (DctO a xs)
mutual
def keyD : PyData → Option NestedKey
  | .none => some .none
  | .int i => some (.num i)
  | .tuple ds => (keysD ds).map .tup
  | _ => none
def keysD : List PyData → Option (List NestedKey)
  | [] => some []
  | d :: ds => match keyD d with
    | some k => (keysD ds).map (k :: ·)
    | none => none
end
mutual
/-- data, dicts too -/
inductive Dz (K : PySem.W.Frag) (H : Hp) : V → PyData → Prop
  | non : Dz K H .non .none
  | bl (b : Bool) : Dz K H (.bl b) (.bool b)
  | int (i : Int) : Dz K H (.int i) (.int i)
  | str (x : Str) : Dz K H (.str x) (.str x)
  | lst {a : Addr} {xs : List V} {ds : List PyData} : SqL K H a xs → DzAll K H xs ds → Dz K H (.ref a) (.list ds)
  | tup {a : Addr} {xs : List V} {ds : List PyData} : SqT K H a xs → DzAll K H xs ds → Dz K H (.ref a) (.tuple ds)
  | dct {a : Addr} {xs : List (NestedKey × Addr × V)} {kvs : List (PyData × PyData)} : H a = some (DkO a xs) → DzKv K H xs kvs → Dz K H (.ref a) (.dict kvs)
inductive DzAll (K : PySem.W.Frag) (H : Hp) : List V → List PyData → Prop
  | nil : DzAll K H [] []
  | cons {v : V} {vs : List V} {d : PyData} {ds : List PyData} : Dz K H v d → DzAll K H vs ds → DzAll K H (v :: vs) (d :: ds)
inductive DzKv (K : PySem.W.Frag) (H : Hp) : List (NestedKey × Addr × V) → List (PyData × PyData) → Prop
  | nil : DzKv K H [] []
  | cons {k : NestedKey} {a : Addr} {v : V} {xs : List (NestedKey × Addr × V)} {dk d : PyData} {kvs : List (PyData × PyData)} : keyD dk = some k → Dz K H (.ref a) dk → Dz K H v d → DzKv K H xs kvs → DzKv K H ((k, a, v) :: xs) ((dk, d) :: kvs)
end
/-! ### data stay -/
theorem sqT_same {K : PySem.W.Frag} {F G : Hp} {a : Addr} {xs : List V} (e : Same F G) (h : SqT K F a xs) : SqT K G a xs := by
  rcases h with (h | ⟨o, h⟩) | h
  · exact .inl (.inl (e _ _ h))
  · exact .inl (.inr ⟨o, e _ _ h⟩)
  · exact .inr h
mutual
theorem dp_same {K : PySem.W.Frag} {F G : Hp} (e : Same F G) : ∀ {v : V} {d : PyData}, Dz K F v d → Dz K G v d
  | _, _, .non => .non
  | _, _, .bl b => .bl b
  | _, _, .int i => .int i
  | _, _, .str x => .str x
  | _, _, .lst h hs => .lst (e.seq h) (dpAll_same e hs)
  | _, _, .tup h hs => .tup (sqT_same e h) (dpAll_same e hs)
  | _, _, .dct h hs => .dct (e _ _ h) (dpKv_same e hs)
theorem dpAll_same {K : PySem.W.Frag} {F G : Hp} (e : Same F G) : ∀ {vs : List V} {ds : List PyData}, DzAll K F vs ds → DzAll K G vs ds
  | _, _, .nil => .nil
  | _, _, .cons h hs => .cons (dp_same e h) (dpAll_same e hs)
theorem dpKv_same {K : PySem.W.Frag} {F G : Hp} (e : Same F G) : ∀ {xs : List (NestedKey × Addr × V)} {kvs : List (PyData × PyData)}, DzKv K F xs kvs → DzKv K G xs kvs
  | _, _, .nil => .nil
  | _, _, .cons q h1 h2 hs => .cons q (dp_same e h1) (dp_same e h2) (dpKv_same e hs)
end
mutual
/-- no dict within -/
def nod : PyData → Bool
  | .dict _ => false
  | .list xs => nodAll xs
  | .tuple xs => nodAll xs
  | _ => true
def nodAll : List PyData → Bool
  | [] => true
  | x :: xs => nod x && nodAll xs
end
mutual
theorem nod_lay : ∀ d : PyData, d.canLay0 = true → nod d = true
  | .none, _ => by simp [nod]
  | .bool _, _ => by simp [nod]
  | .int _, _ => by simp [nod]
  | .str _, _ => by simp [nod]
  | .list xs, h => by
    rw [nod]
    exact nodAll_lay xs (by simpa [PyData.canLay0] using h)
  | .tuple xs, h => by
    rw [nod]
    exact nodAll_lay xs (by simpa [PyData.canLay0] using h)
  | .dict _, h => nomatch h
theorem nodAll_lay : ∀ xs : List PyData, PyData.canLayAll0 xs = true → nodAll xs = true
  | [], _ => by simp [nodAll]
  | x :: xs, h => by
    have h' := Bool.and_eq_true_iff.mp (by simpa [PyData.canLayAll0] using h)
    rw [nodAll, nod_lay x h'.1, nodAll_lay xs h'.2]
    rfl
end
mutual
/-- data without dicts, as the library has it -/
theorem dz_N {K : PySem.W.Frag} {F : Hp} : ∀ {v : V} {d : PyData}, Dz K F v d → nod d = true → L2.Dp K F v d
  | _, _, .non, _ => .non
  | _, _, .bl b, _ => .bl b
  | _, _, .int i, _ => .int i
  | _, _, .str x, _ => .str x
  | _, _, .lst h hs, c => .lst h (dzAll_N hs (by rw [nod] at c; exact c))
  | _, _, .tup h hs, c => .tup h (dzAll_N hs (by rw [nod] at c; exact c))
  | _, _, .dct h hs, c => by rw [nod] at c; cases c
theorem dzAll_N {K : PySem.W.Frag} {F : Hp} : ∀ {vs : List V} {ds : List PyData}, DzAll K F vs ds → nodAll ds = true → L2.DpAll K F vs ds
  | _, _, .nil, _ => .nil
  | _, _, .cons h hs, c => by
    rw [nodAll] at c
    have c' := Bool.and_eq_true_iff.mp c
    exact .cons (dz_N h c'.1) (dzAll_N hs c'.2)
end
theorem dz_L {K : PySem.W.Frag} {F : Hp} {v : V} {d : PyData} (h : Dz K F v d) (c : d.canLay0 = true) : L2.Dp K F v d := dz_N h (nod_lay d c)
section
variable {K : PySem.W.Frag} {F : Hp}
theorem dpAll_len : ∀ {vs : List V} {ds : List PyData}, DzAll K F vs ds → vs.length = ds.length
  | _, _, .nil => rfl
  | _, _, .cons _ h => congrArg (· + 1) (dpAll_len h)
theorem dpAll_get : ∀ {vs : List V} {ds : List PyData} {i : Nat} {v : V}, DzAll K F vs ds → vs[i]? = some v → ∃ d, ds[i]? = some d ∧ Dz K F v d
  | _, _, _, _, .nil, e => by cases e
  | _, _, 0, _, .cons h _, e => by cases e; exact ⟨_, rfl, h⟩
  | _, _, i + 1, v, .cons _ h, e => dpAll_get (i := i) h e
theorem dpAll_at : ∀ {vs : List V} {ds : List PyData} {i : Nat} {d : PyData}, DzAll K F vs ds → ds[i]? = some d → ∃ v, vs[i]? = some v ∧ Dz K F v d
  | _, _, _, _, .nil, e => by cases e
  | _, _, 0, _, .cons h _, e => by cases e; exact ⟨_, rfl, h⟩
  | _, _, i + 1, v, .cons _ h, e => dpAll_at (i := i) h e
theorem dpAll_app : ∀ {vs us : List V} {ds es : List PyData}, DzAll K F vs ds → DzAll K F us es → DzAll K F (vs ++ us) (ds ++ es)
  | _, _, _, _, .nil, h => h
  | _, _, _, _, .cons a b, h => .cons a (dpAll_app b h)
theorem dpAll_take : ∀ {vs : List V} {ds : List PyData} (n : Nat), DzAll K F vs ds → DzAll K F (vs.take n) (ds.take n)
  | _, _, 0, _ => .nil
  | _, _, _ + 1, .nil => .nil
  | _, _, n + 1, .cons a b => .cons a (dpAll_take n b)
theorem dpAll_drop : ∀ {vs : List V} {ds : List PyData} (n : Nat), DzAll K F vs ds → DzAll K F (vs.drop n) (ds.drop n)
  | _, _, 0, h => h
  | _, _, _ + 1, .nil => .nil
  | _, _, n + 1, .cons a b => dpAll_drop n b
theorem dpAll_set : ∀ {vs : List V} {ds : List PyData} (n : Nat) {v : V} {d : PyData}, DzAll K F vs ds → Dz K F v d → DzAll K F (vs.set n v) (ds.set n d)
  | _, _, _, _, _, .nil, _ => .nil
  | _, _, 0, _, _, .cons a b, h => .cons h b
  | _, _, n + 1, _, _, .cons a b, h => .cons a (dpAll_set n b h)
theorem dpAll_ints : ∀ {vs : List V} {ns : List Int}, DzAll K F vs (ns.map PyData.int) → vs = ns.map V.int
  | [], [], _ => rfl
  | _, [], h => by cases h; rfl
  | _, n :: ns, .cons h hs => by
    cases h
    rw [dpAll_ints hs]
    rfl
theorem ints_dpAll : ∀ (ns : List Int), DzAll K F (ns.map V.int) (ns.map PyData.int)
  | [] => .nil
  | n :: ns => .cons (.int n) (ints_dpAll ns)
end

/-! ### slots -/
/-- what a slot holds: nothing that is known; data; a list of the def's own; the list that the def was handed to change -/
inductive Sl where
  | un | dat (d : PyData) | own (ds : List PyData) | io (ds : List PyData) | dic (kvs : List (PyData × PyData)) | fn (n : Nat)
abbrev Ev := List Sl
/-- a value: data, or the list in a slot -/
inductive Ob where
  | d (x : PyData) | s (i : Nat)
/-- what is fixed through a def's run -/
structure Co where
  K : PySem.W.Frag
  T : List Addr
  H0 : Hp
  F0 : Hp
  io : List Addr
  /-- the defs that the def was handed -/
  fv : List Addr

/-- an object with nothing besides its data -/
def PlT (o : Obj) : Prop := o.dict = none ∧ o.slots = #[]
/-- a tuple among the data is known to be so -/
def TFo : HO → Prop
  | .tup _ => False
  | .frz o (.tup _) => PlT o
  | _ => True
structure TF (K : PySem.W.Frag) (F : Hp) : Prop where
  a : ∀ b o, F b = some o → TFo o
  k : ∀ b o, K.lookup b = some o → o.cls = .type "tuple" → PlT o
theorem TF.lst {K : PySem.W.Frag} {F : Hp} {a : Addr} {vs : List V} (h : TF K F) : TF K (upd F a (.lst vs)) :=
  ⟨fun b o e => by
    by_cases hb : b = a
    · rw [hb, upd_same] at e
      cases e
      trivial
    · rw [upd_ne hb] at e
      exact h.a b o e, h.k⟩
theorem TF.dict {K : PySem.W.Frag} {F : Hp} {a : Addr} {vs : List V} (h : TF K F) (q : SqT K F a vs) : (∃ o, F a = some (.frz o (.tup vs)) ∧ PlT o) ∨ ∃ o, K.lookup a = some o ∧ o.cls = .type "tuple" ∧ PlT o := by
  rcases q with (q | ⟨o, q⟩) | ⟨o, its, n, q, hc, _⟩
  · exact (h.a _ _ q).elim
  · exact .inl ⟨o, q, h.a _ _ q⟩
  · exact .inr ⟨o, q, hc, h.k _ _ q hc⟩

def vAt (σ : L2.St) (i : Nat) : Option V := (σ[i]?).join
theorem vAt_eq {σ : L2.St} {i : Nat} {v : V} (h : vAt σ i = some v) : σ[i]? = some (some v) := by
  unfold vAt at h
  cases e : σ[i]? with
  | none => rw [e] at h; cases h
  | some o => rw [e] at h; cases o with
    | none => cases h
    | some w => cases h; rfl
theorem vAt_set {σ : L2.St} {i : Nat} {v : V} (h : i < σ.length) : vAt (σ.set i (some v)) i = some v := by
  unfold vAt
  rw [List.getElem?_set_self h]
  rfl
theorem vAt_ne {σ : L2.St} {i j : Nat} {v : Option V} (h : i ≠ j) : vAt (σ.set i v) j = vAt σ j := by
  unfold vAt
  rw [List.getElem?_set_ne h]

def SlOk (c : Co) (F H : Hp) (v : Option V) : Sl → Prop
  | .un => True
  | .fn n => ∃ a, c.fv[n]? = some a ∧ v = some (.ref a)
  | .dat d => ∃ x, v = some x ∧ Dz c.K F x d
  | .own ds => ∃ a vs, v = some (.ref a) ∧ H a = some (.lst vs) ∧ DzAll c.K F vs ds ∧ F a = none ∧ a ∉ c.T ∧ c.H0 a = none
  | .io ds => ∃ a vs, c.io = [a] ∧ v = some (.ref a) ∧ H a = some (.lst vs) ∧ DzAll c.K F vs ds ∧ F a = none ∧ a ∉ c.T
  | .dic kvs => ∃ a xs, v = some (.ref a) ∧ H a = some (DkO a xs) ∧ DzKv c.K F xs kvs ∧ F a = none ∧ a ∉ c.T ∧ c.H0 a = none

structure Rl (c : Co) (F H : Hp) (σ : L2.St) (ρ : Ev) : Prop where
  len : σ.length = ρ.length
  sub : Same F H
  ft : ∀ P ∈ c.T, F P = none
  tb : ∀ P ∈ c.T, TabG H P
  mono : Same c.F0 F
  fr : ∀ b o, c.H0 b = some o → b ∉ c.T → b ∉ c.io → H b = some o
  ioh : ∀ a ∈ c.io, c.H0 a ≠ none ∧ a ∉ c.T ∧ F a = none ∧ ∃ vs, H a = some (.lst vs)
  sl : ∀ i sl, ρ[i]? = some sl → SlOk c F H (vAt σ i) sl
  dj : ∀ (i j : Nat) a ds es, ρ[i]? = some (Sl.own ds) → ρ[j]? = some (Sl.own es) → vAt σ i = some (.ref a) → vAt σ j = some (.ref a) → i = j
  iu : ∀ (i j : Nat) ds es, ρ[i]? = some (Sl.io ds) → ρ[j]? = some (Sl.io es) → i = j
  nw : ∀ a, c.H0 a ≠ none → c.F0 a = none → F a = none
  tf : TF c.K F
  dk : ∀ (i j : Nat) a ds es, ρ[i]? = some (Sl.dic ds) → ρ[j]? = some (Sl.dic es) → vAt σ i = some (.ref a) → vAt σ j = some (.ref a) → i = j

/-- the heap has grown; what is new in F is new in H -/
structure Xt (F H F' H' : Hp) : Prop where
  f : Same F F'
  s : Same F' H'
  h : Same H H'
  n : ∀ a, H a ≠ none → F a = none → F' a = none
  t : ∀ b o, F' b = some o → F b = some o ∨ TFo o
theorem Xt.refl {F H : Hp} (s : Same F H) : Xt F H F H := ⟨Same.refl _, s, Same.refl _, fun _ _ e => e, fun _ _ e => .inl e⟩
theorem Xt.tf {K : PySem.W.Frag} {F H F' H' : Hp} (x : Xt F H F' H') (h : TF K F) : TF K F' := ⟨fun b o e => (x.t b o e).elim (h.a b o) id, h.k⟩
theorem Xt.trans {F H F1 H1 F2 H2 : Hp} (a : Xt F H F1 H1) (b : Xt F1 H1 F2 H2) : Xt F H F2 H2 :=
  ⟨a.f.trans b.f, b.s, a.h.trans b.h, fun p h1 h2 => b.n p (fun z => by
    cases e : H p with
    | none => exact h1 e
    | some o => rw [a.h p o e] at z; cases z) (a.n p h1 h2), fun p o e => (b.t p o e).elim (a.t p o) .inr⟩
/-- a new object -/
theorem Xt.new {F H : Hp} {p : Addr} {o : HO} (s : Same F H) (hp : H p = none) (ho : TFo o := by trivial) : Xt F H (upd F p o) (upd H p o) := by
  have fp : F p = none := s.free hp
  refine ⟨fun b x e => ?_, fun b x e => ?_, fun b x e => ?_, fun a h1 h2 => ?_, fun b x e => ?_⟩
  · rw [upd_ne (ne_of_none e fp)]
    exact e
  · by_cases hb : b = p
    · rw [hb, upd_same] at e ⊢
      exact e
    · rw [upd_ne hb] at e ⊢
      exact s _ _ e
  · rw [upd_ne (ne_of_none e hp)]
    exact e
  · have : a ≠ p := fun z => h1 (by rw [z]; exact hp)
    rw [upd_ne this]
    exact h2
  · by_cases hb : b = p
    · rw [hb, upd_same] at e
      cases e
      exact .inr ho
    · rw [upd_ne hb] at e
      exact .inl e
/-- a new object that isn't data yet -/
theorem Xt.raw {F H : Hp} {p : Addr} {o : HO} (s : Same F H) (hp : H p = none) : Xt F H F (upd H p o) := by
  refine ⟨Same.refl _, fun b x e => ?_, fun b x e => ?_, fun _ _ h2 => h2, fun _ _ e => .inl e⟩
  · rw [upd_ne (ne_of_none (s _ _ e) hp)]
    exact s _ _ e
  · rw [upd_ne (ne_of_none e hp)]
    exact e

section
variable {c : Co} {F F' H H' : Hp} {σ : L2.St} {ρ : Ev}
theorem SlOk.xt {v : Option V} {sl : Sl} (h : SlOk c F H v sl) (x : Xt F H F' H') : SlOk c F' H' v sl := by
  cases sl with
  | un => trivial
  | fn n => exact h
  | dat d =>
    obtain ⟨w, e, h⟩ := h
    exact ⟨w, e, dp_same x.f h⟩
  | own ds =>
    obtain ⟨a, vs, e, h1, h2, h3, h4⟩ := h
    exact ⟨a, vs, e, x.h _ _ h1, dpAll_same x.f h2, x.n a (by rw [h1]; exact fun z => by cases z) h3, h4⟩
  | io ds =>
    obtain ⟨a, vs, e0, e, h1, h2, h3, h4⟩ := h
    exact ⟨a, vs, e0, e, x.h _ _ h1, dpAll_same x.f h2, x.n a (by rw [h1]; exact fun z => by cases z) h3, h4⟩
  | dic kvs =>
    obtain ⟨a, vs, e, h1, h2, h3, h4⟩ := h
    exact ⟨a, vs, e, x.h _ _ h1, dpKv_same x.f h2, x.n a (by rw [h1]; exact fun z => by cases z) h3, h4⟩
theorem Rl.xt (R : Rl c F H σ ρ) (x : Xt F H F' H') : Rl c F' H' σ ρ where
  len := R.len
  sub := x.s
  ft := fun P hP => x.n P (by
    obtain ⟨ps, e, _⟩ := R.tb P hP
    rw [e]
    exact fun z => by cases z) (R.ft P hP)
  tb := fun P hP => by
    obtain ⟨ps, e, t⟩ := R.tb P hP
    exact ⟨ps, x.h _ _ e, t⟩
  mono := R.mono.trans x.f
  fr := fun b o e h1 h2 => x.h _ _ (R.fr b o e h1 h2)
  ioh := fun a ha => by
    obtain ⟨h1, h2, h3, vs, h4⟩ := R.ioh a ha
    exact ⟨h1, h2, x.n a (by rw [h4]; exact fun z => by cases z) h3, vs, x.h _ _ h4⟩
  sl := fun i sl e => (R.sl i sl e).xt x
  dj := R.dj
  iu := R.iu
  nw := fun a h1 h2 => by
    have old := R.nw a h1 h2
    by_cases hT : a ∈ c.T
    · exact x.n a (by
        obtain ⟨ps, e, _⟩ := R.tb a hT
        rw [e]
        exact fun z => by cases z) old
    · by_cases hi : a ∈ c.io
      · obtain ⟨_, _, _, vs, h4⟩ := R.ioh a hi
        exact x.n a (by rw [h4]; exact fun z => by cases z) old
      · cases e : c.H0 a with
        | none => exact absurd e h1
        | some o => exact x.n a (by rw [R.fr a o e hT hi]; exact fun z => by cases z) old
  tf := x.tf R.tf
  dk := R.dk
/-- forgetting, or knowing again, slots -/
theorem Rl.slots {σ' : L2.St} {ρ' : Ev} (R : Rl c F H σ ρ) (hl : σ'.length = ρ'.length) (h : ∀ i sl, ρ'[i]? = some sl → SlOk c F H (vAt σ' i) sl)
    (dj : ∀ (i j : Nat) a ds es, ρ'[i]? = some (Sl.own ds) → ρ'[j]? = some (Sl.own es) → vAt σ' i = some (.ref a) → vAt σ' j = some (.ref a) → i = j) (iu : ∀ (i j : Nat) ds es, ρ'[i]? = some (Sl.io ds) → ρ'[j]? = some (Sl.io es) → i = j)
    (dk : ∀ (i j : Nat) a ds es, ρ'[i]? = some (Sl.dic ds) → ρ'[j]? = some (Sl.dic es) → vAt σ' i = some (.ref a) → vAt σ' j = some (.ref a) → i = j) : Rl c F H σ' ρ' :=
  ⟨hl, R.sub, R.ft, R.tb, R.mono, R.fr, R.ioh, h, dj, iu, R.nw, R.tf, dk⟩
def Sl.isIo : Sl → Bool
  | .io _ => true
  | _ => false
/-- data stored at a slot -/
theorem Rl.set {i : Nat} {v : V} {d : PyData} (R : Rl c F H σ ρ) (h : Dz c.K F v d) : Rl c F H (σ.set i (some v)) (ρ.set i (.dat d)) := by
  refine R.slots (by rw [List.length_set, List.length_set]; exact R.len) (fun j sl e => ?_) (fun j k a ds es e1 e2 e3 e4 => ?_) (fun j k ds es e1 e2 => ?_) (fun j k a ds es e1 e2 e3 e4 => ?_)
  · by_cases hj : i = j
    · subst hj
      by_cases hi : i < ρ.length
      · rw [List.getElem?_set_self hi] at e
        cases e
        exact ⟨v, vAt_set (by rw [R.len]; exact hi), h⟩
      · rw [List.getElem?_eq_none (by simpa using hi)] at e
        cases e
    · rw [List.getElem?_set_ne hj] at e
      rw [vAt_ne hj]
      exact R.sl j sl e
  · have n1 : i ≠ j := fun z => by
      subst z
      by_cases hi : i < ρ.length
      · rw [List.getElem?_set_self hi] at e1; cases e1
      · rw [List.getElem?_eq_none (by simpa using hi)] at e1; cases e1
    have n2 : i ≠ k := fun z => by
      subst z
      by_cases hi : i < ρ.length
      · rw [List.getElem?_set_self hi] at e2; cases e2
      · rw [List.getElem?_eq_none (by simpa using hi)] at e2; cases e2
    rw [List.getElem?_set_ne n1] at e1
    rw [List.getElem?_set_ne n2] at e2
    rw [vAt_ne n1] at e3
    rw [vAt_ne n2] at e4
    exact R.dj j k a ds es e1 e2 e3 e4
  · have n1 : i ≠ j := fun z => by
      subst z
      by_cases hi : i < ρ.length
      · rw [List.getElem?_set_self hi] at e1; cases e1
      · rw [List.getElem?_eq_none (by simpa using hi)] at e1; cases e1
    have n2 : i ≠ k := fun z => by
      subst z
      by_cases hi : i < ρ.length
      · rw [List.getElem?_set_self hi] at e2; cases e2
      · rw [List.getElem?_eq_none (by simpa using hi)] at e2; cases e2
    rw [List.getElem?_set_ne n1] at e1
    rw [List.getElem?_set_ne n2] at e2
    exact R.iu j k ds es e1 e2
  · have n1 : i ≠ j := fun z => by
      subst z
      by_cases hi : i < ρ.length
      · rw [List.getElem?_set_self hi] at e1; cases e1
      · rw [List.getElem?_eq_none (by simpa using hi)] at e1; cases e1
    have n2 : i ≠ k := fun z => by
      subst z
      by_cases hi : i < ρ.length
      · rw [List.getElem?_set_self hi] at e2; cases e2
      · rw [List.getElem?_eq_none (by simpa using hi)] at e2; cases e2
    rw [List.getElem?_set_ne n1] at e1
    rw [List.getElem?_set_ne n2] at e2
    rw [vAt_ne n1] at e3
    rw [vAt_ne n2] at e4
    exact R.dk j k a ds es e1 e2 e3 e4

/-- behind a call that changes the tables alone, and lays new things -/
theorem Rl.call (R : Rl c F H σ ρ) (f : Same F F') (s : Same F' H') (t : ∀ P ∈ c.T, F' P = none ∧ TabG H' P) (h : ∀ b o, H b = some o → b ∉ c.T → H' b = some o) (n : ∀ a, H a ≠ none → F a = none → F' a = none) (tf : TF c.K F') : Rl c F' H' σ ρ where
  len := R.len
  sub := s
  ft := fun P hP => (t P hP).1
  tb := fun P hP => (t P hP).2
  mono := R.mono.trans f
  fr := fun b o e h1 h2 => h _ _ (R.fr b o e h1 h2) h1
  ioh := fun a ha => by
    obtain ⟨h1, h2, h3, vs, h4⟩ := R.ioh a ha
    exact ⟨h1, h2, n a (by rw [h4]; exact fun z => by cases z) h3, vs, h _ _ h4 h2⟩
  sl := fun i sl e => by
    have old := R.sl i sl e
    cases sl with
    | un => trivial
    | fn n => exact old
    | dat d =>
      obtain ⟨w, e, h⟩ := old
      exact ⟨w, e, dp_same f h⟩
    | own ds =>
      obtain ⟨a, vs, e, h1, h2, h3, h4, h5⟩ := old
      exact ⟨a, vs, e, h _ _ h1 h4, dpAll_same f h2, n a (by rw [h1]; exact fun z => by cases z) h3, h4, h5⟩
    | io ds =>
      obtain ⟨a, vs, e0, e, h1, h2, h3, h4⟩ := old
      exact ⟨a, vs, e0, e, h _ _ h1 h4, dpAll_same f h2, n a (by rw [h1]; exact fun z => by cases z) h3, h4⟩
    | dic kvs =>
      obtain ⟨a, vs, e, h1, h2, h3, h4, h5⟩ := old
      exact ⟨a, vs, e, h _ _ h1 h4, dpKv_same f h2, n a (by rw [h1]; exact fun z => by cases z) h3, h4, h5⟩
  dj := R.dj
  iu := R.iu
  nw := fun a h1 h2 => by
    have old := R.nw a h1 h2
    by_cases hT : a ∈ c.T
    · exact (t a hT).1
    · by_cases hi : a ∈ c.io
      · obtain ⟨_, _, _, vs, h4⟩ := R.ioh a hi
        exact n a (by rw [h4]; exact fun z => by cases z) old
      · cases e : c.H0 a with
        | none => exact absurd e h1
        | some o => exact n a (by rw [R.fr a o e hT hi]; exact fun z => by cases z) old
  tf := tf
  dk := R.dk
/-- a list that is nobody's yet -/
structure Fresh (c : Co) (F H : Hp) (σ : L2.St) (ρ : Ev) (a : Addr) (ds : List PyData) : Prop where
  at_ : ∃ vs, H a = some (.lst vs) ∧ DzAll c.K F vs ds
  nf : F a = none
  nt : a ∉ c.T
  h0 : c.H0 a = none
  no : ∀ i es, ρ[i]? = some (Sl.own es) → vAt σ i ≠ some (.ref a)
theorem Rl.h0_of_new (R : Rl c F H σ ρ) {p : Addr} (hp : H p = none) : c.H0 p = none := by
  cases e : c.H0 p with
  | none => rfl
  | some o =>
    have nt : p ∉ c.T := fun z => by
      obtain ⟨ps, q, _⟩ := R.tb p z
      rw [hp] at q
      cases q
    have ni : p ∉ c.io := fun z => by
      obtain ⟨_, _, _, vs, q⟩ := R.ioh p z
      rw [hp] at q
      cases q
    rw [R.fr p o e nt ni] at hp
    cases hp
theorem Rl.fresh (R : Rl c F H σ ρ) {p : Addr} {vs : List V} {ds : List PyData} (hp : H p = none) (h : DzAll c.K F vs ds) : Rl c F (upd H p (.lst vs)) σ ρ ∧ Fresh c F (upd H p (.lst vs)) σ ρ p ds := by
  refine ⟨R.xt (Xt.raw R.sub hp), ⟨vs, upd_same, h⟩, R.sub.free hp, fun z => ?_, R.h0_of_new hp, fun i es e z => ?_⟩
  · obtain ⟨ps, q, _⟩ := R.tb p z
    rw [hp] at q
    cases q
  · obtain ⟨a, ws, e1, e2, _⟩ := R.sl i _ e
    rw [z] at e1
    cases e1
    rw [hp] at e2
    cases e2
/-- .. becomes data -/
theorem Rl.freeze {a : Addr} {ds : List PyData} {vs : List V} (R : Rl c F H σ ρ) (f : Fresh c F H σ ρ a ds) (hv : H a = some (.lst vs)) : Rl c (upd F a (.lst vs)) H σ ρ := by
  have sF : Same F (upd F a (.lst vs)) := fun b o e => by
    rw [upd_ne (ne_of_none e f.nf)]
    exact e
  have nio : ∀ b ∈ c.io, b ≠ a := fun b hb z => (R.ioh b hb).1 (by rw [z]; exact f.h0)
  refine ⟨R.len, fun b o e => ?_, fun P hP => ?_, R.tb, R.mono.trans sF, R.fr, fun b hb => ?_, fun i sl e => ?_, R.dj, R.iu, fun b h1 h2 => ?_, R.tf.lst, R.dk⟩
  · by_cases hb : b = a
    · rw [hb, upd_same] at e
      rw [hb, hv]
      exact e
    · rw [upd_ne hb] at e
      exact R.sub _ _ e
  · have : P ≠ a := fun z => f.nt (by rw [← z]; exact hP)
    rw [upd_ne this]
    exact R.ft P hP
  · obtain ⟨h1, h2, h3, h4⟩ := R.ioh b hb
    exact ⟨h1, h2, by rw [upd_ne (nio b hb)]; exact h3, h4⟩
  · have old := R.sl i sl e
    cases sl with
    | un => trivial
    | fn n => exact old
    | dat d =>
      obtain ⟨w, e1, h1⟩ := old
      exact ⟨w, e1, dp_same sF h1⟩
    | own es =>
      obtain ⟨b, ws, e1, h1, h2, h3, h4⟩ := old
      have nb : b ≠ a := fun z => f.no i es e (by rw [e1, z])
      exact ⟨b, ws, e1, h1, dpAll_same sF h2, by rw [upd_ne nb]; exact h3, h4⟩
    | io es =>
      obtain ⟨b, ws, e0, e1, h1, h2, h3, h4⟩ := old
      exact ⟨b, ws, e0, e1, h1, dpAll_same sF h2, by rw [upd_ne (nio b (by rw [e0]; simp))]; exact h3, h4⟩
    | dic kvs =>
      obtain ⟨b, ws, e1, h1, h2, h3, h4⟩ := old
      have nb : b ≠ a := fun z => by
        rw [z, hv] at h1
        cases h1
      exact ⟨b, ws, e1, h1, dpKv_same sF h2, by rw [upd_ne nb]; exact h3, h4⟩
  · have nb : b ≠ a := fun z => h1 (by rw [z]; exact f.h0)
    rw [upd_ne nb]
    exact R.nw b h1 h2
theorem dp_frozen {K : PySem.W.Frag} {F : Hp} {a : Addr} {vs : List V} {ds : List PyData} (nf : F a = none) (h : DzAll K F vs ds) : Dz K (upd F a (.lst vs)) (.ref a) (.list ds) :=
  .lst (.inl (.inl upd_same)) (dpAll_same (fun b o e => by
    rw [upd_ne (ne_of_none e nf)]
    exact e) h)

/-- a value as it is read -/
def Vw (K : PySem.W.Frag) (F H : Hp) (x : V) (d : PyData) : Prop := Dz K F x d ∨ (∃ a vs ds, x = .ref a ∧ d = .list ds ∧ H a = some (.lst vs) ∧ DzAll K F vs ds) ∨ ∃ a xs kvs, x = .ref a ∧ d = .dict kvs ∧ H a = some (DkO a xs) ∧ DzKv K F xs kvs
theorem Vw.dp {K : PySem.W.Frag} {x : V} {d : PyData} (h : Vw K F H x d) (s : Same F H) : Dz K H x d := by
  rcases h with h | ⟨a, vs, ds, rfl, rfl, h, hs⟩ | ⟨a, xs, kvs, rfl, rfl, h, hs⟩
  · exact dp_same s h
  · exact .lst (.inl (.inl h)) (dpAll_same s hs)
  · exact .dct h (dpKv_same s hs)
theorem Vw.list {K : PySem.W.Frag} {x : V} {ds : List PyData} (h : Vw K F H x (.list ds)) (s : Same F H) : ∃ a vs, x = .ref a ∧ SqL K H a vs ∧ DzAll K F vs ds := by
  rcases h with h | ⟨a, vs, ds, rfl, e, h, hs⟩ | ⟨a, xs, kvs, rfl, e, h, hs⟩
  · cases h with
    | lst h hs => exact ⟨_, _, rfl, s.seq h, hs⟩
  · cases e
    exact ⟨a, vs, rfl, .inl (.inl h), hs⟩
  · cases e
theorem Vw.tup {K : PySem.W.Frag} {x : V} {ds : List PyData} (h : Vw K F H x (.tuple ds)) (s : Same F H) : ∃ a vs, x = .ref a ∧ SqT K H a vs ∧ DzAll K F vs ds := by
  rcases h with h | ⟨a, vs, ds, rfl, e, h, hs⟩ | ⟨a, xs, kvs, rfl, e, h, hs⟩
  · cases h with
    | tup h hs => exact ⟨_, _, rfl, sqT_same s h, hs⟩
  · cases e
  · cases e
theorem Vw.int {K : PySem.W.Frag} {x : V} {i : Int} (h : Vw K F H x (.int i)) : x = .int i := by
  rcases h with h | ⟨a, vs, ds, rfl, e, h, hs⟩ | ⟨a, xs, kvs, rfl, e, h, hs⟩
  · cases h
    rfl
  · cases e
  · cases e
theorem Vw.bool {K : PySem.W.Frag} {x : V} {b : Bool} (h : Vw K F H x (.bool b)) : x = .bl b := by
  rcases h with h | ⟨a, vs, ds, rfl, e, h, hs⟩ | ⟨a, xs, kvs, rfl, e, h, hs⟩
  · cases h
    rfl
  · cases e
  · cases e

def ObOk (c : Co) (F : Hp) (σ : L2.St) (v : V) : Ob → Prop
  | .d d => Dz c.K F v d
  | .s i => vAt σ i = some v
theorem ObOk.same {v : V} {x : Ob} (h : ObOk c F σ v x) (s : Same F F') : ObOk c F' σ v x := by
  cases x with
  | d d => exact dp_same s h
  | s i => exact h
def res (ρ : Ev) : Ob → Option PyData
  | .d d => some d
  | .s i => match ρ[i]? with
    | some (Sl.own ds) => some (.list ds)
    | some (Sl.io ds) => some (.list ds)
    | some (.dat d) => some d
    | some (Sl.dic kvs) => some (.dict kvs)
    | _ => none
theorem Rl.vw (R : Rl c F H σ ρ) {v : V} {x : Ob} {d : PyData} (h : ObOk c F σ v x) (e : res ρ x = some d) : Vw c.K F H v d := by
  cases x with
  | d d' => cases e; exact .inl h
  | s i =>
    have h : vAt σ i = some v := h
    unfold res at e
    cases q : ρ[i]? with
    | none => simp [q] at e
    | some sl =>
      have ok := R.sl i sl q
      cases sl with
      | un => simp [q] at e
      | fn n => simp [q] at e
      | dat d' =>
        simp only [q, Option.some.injEq] at e
        subst e
        obtain ⟨w, e1, e2⟩ := ok
        rw [h] at e1
        cases e1
        exact .inl e2
      | own ds =>
        simp only [q, Option.some.injEq] at e
        subst e
        obtain ⟨a, vs, e1, e2, e3, _⟩ := ok
        rw [h] at e1
        cases e1
        exact .inr (.inl ⟨a, vs, ds, rfl, rfl, e2, e3⟩)
      | io ds =>
        simp only [q, Option.some.injEq] at e
        subst e
        obtain ⟨a, vs, _, e1, e2, e3, _⟩ := ok
        rw [h] at e1
        cases e1
        exact .inr (.inl ⟨a, vs, ds, rfl, rfl, e2, e3⟩)
      | dic kvs =>
        simp only [q, Option.some.injEq] at e
        subst e
        obtain ⟨a, xs, e1, e2, e3, _⟩ := ok
        rw [h] at e1
        cases e1
        exact .inr (.inr ⟨a, xs, kvs, rfl, rfl, e2, e3⟩)
end
end PD

/-! Plain data: expressions and tests -/
namespace PD
open PySem PySem.Spec PyProof.Rows L2 GxR

abbrev SE := Ev → Option (Ob × Ev)
abbrev STe := Ev → Option (Bool × Ev)
abbrev SA := Ev → Option (List Ob × Ev)

def rE (c : Co) (f : SE) : TE := fun σ H Q => ∃ F ρ x ρ', Rl c F H σ ρ ∧ f ρ = some (x, ρ') ∧ ∀ v H' F', Same F F' → Rl c F' H' σ ρ' → ObOk c F' σ v x → Q v H'
def rT (c : Co) (f : STe) : TT := fun σ H Q => ∃ F ρ b ρ', Rl c F H σ ρ ∧ f ρ = some (b, ρ') ∧ ∀ H' F', Same F F' → Rl c F' H' σ ρ' → Q b H'
def ObsOk (c : Co) (F : Hp) (σ : L2.St) : List V → List Ob → Prop
  | [], [] => True
  | v :: vs, x :: xs => ObOk c F σ v x ∧ ObsOk c F σ vs xs
  | _, _ => False
def rA (c : Co) (f : SA) : TA := fun σ H Q => ∃ F ρ xs ρ', Rl c F H σ ρ ∧ f ρ = some (xs, ρ') ∧ ∀ vs H' F', Same F F' → Rl c F' H' σ ρ' → ObsOk c F' σ vs xs → Q vs H'

structure EO (c : Co) (X : Cx) (e : Expr) (f : SE) : Prop where
  pe : PE X e (rE c f)
structure ET (c : Co) (X : Cx) (e : Expr) (f : STe) : Prop where
  pt : PT X e (rT c f)
structure EW (c : Co) (X : Cx) (e : Expr) (f : STe) : Prop where
  pw : PW X e (rT c f)
structure EA (c : Co) (X : Cx) (es : List Expr) (f : SA) : Prop where
  pa : PA X es (rA c f)

theorem pe_imp {X : Cx} {e : Expr} {t t' : TE} (h : PE X e t) (i : ∀ σ H Q, t' σ H Q → t σ H Q) : PE X e t' := ⟨fun pins s σ H Q I q => h.run pins s σ H Q I (i σ H Q q)⟩
theorem pt_imp {X : Cx} {e : Expr} {t t' : TT} (h : PT X e t) (i : ∀ σ H Q, t' σ H Q → t σ H Q) : PT X e t' := ⟨fun pins s σ H Q I q => h.run pins s σ H Q I (i σ H Q q)⟩
theorem pw_imp {X : Cx} {e : Expr} {t t' : TT} (h : PW X e t) (i : ∀ σ H Q, t' σ H Q → t σ H Q) : PW X e t' := ⟨fun wh pins s σ H Q I q => h.run wh pins s σ H Q I (i σ H Q q)⟩
theorem pa_imp {X : Cx} {e : List Expr} {t t' : TA} (h : PA X e t) (i : ∀ σ H Q, t' σ H Q → t σ H Q) : PA X e t' := ⟨fun pos pins s σ H Q I q => h.run pos pins s σ H Q I (i σ H Q q)⟩

/-! ### names, constants -/
def sV (i : Nat) : SE := fun ρ => match ρ[i]? with
  | some (.dat d) => some (.d d, ρ)
  | some (.own ds) => some (.d (.list ds), ρ.set i (.dat (.list ds)))
  | some (.dic kvs) => some (.d (.dict kvs), ρ.set i (.dat (.dict kvs)))
  | _ => none
def sB (i : Nat) : SE := fun ρ => match ρ[i]? with
  | some (.dat d) => some (.d d, ρ)
  | some (.own _) => some (.s i, ρ)
  | some (.io _) => some (.s i, ρ)
  | some (.dic _) => some (.s i, ρ)
  | _ => none
def sC (d : PyData) : SE := fun ρ => some (.d d, ρ)

section
variable {c : Co} {X : Cx} {a b e : Expr} {fa fb : SE} {pos : Pos}
theorem eo_b (i : Nat) {x : Str} (h : PE X (.Name x pos) (tVar i)) : EO c X (.Name x pos) (sB i) := by
  refine ⟨pe_imp h fun σ H Q ⟨F, ρ, y, ρ', R, e, k⟩ => ?_⟩
  unfold sB at e
  cases q : ρ[i]? with
  | none => simp [q] at e
  | some sl =>
    have ok := R.sl i sl q
    cases sl with
    | un => simp [q] at e
    | fn n => simp [q] at e
    | dat d =>
      simp only [q, Option.some.injEq, Prod.mk.injEq] at e
      obtain ⟨rfl, rfl⟩ := e
      obtain ⟨w, e1, e2⟩ := ok
      exact ⟨w, vAt_eq e1, k w H F (Same.refl _) R e2⟩
    | own ds =>
      simp only [q, Option.some.injEq, Prod.mk.injEq] at e
      obtain ⟨rfl, rfl⟩ := e
      obtain ⟨a, vs, e1, _⟩ := ok
      exact ⟨.ref a, vAt_eq e1, k (.ref a) H F (Same.refl _) R e1⟩
    | io ds =>
      simp only [q, Option.some.injEq, Prod.mk.injEq] at e
      obtain ⟨rfl, rfl⟩ := e
      obtain ⟨a, vs, _, e1, _⟩ := ok
      exact ⟨.ref a, vAt_eq e1, k (.ref a) H F (Same.refl _) R e1⟩
    | dic kvs =>
      simp only [q, Option.some.injEq, Prod.mk.injEq] at e
      obtain ⟨rfl, rfl⟩ := e
      obtain ⟨a, vs, e1, _⟩ := ok
      exact ⟨.ref a, vAt_eq e1, k (.ref a) H F (Same.refl _) R e1⟩
theorem set_self {σ : L2.St} {i : Nat} {v : V} (h : vAt σ i = some v) : σ.set i (some v) = σ := by
  have e := vAt_eq h
  obtain ⟨hi, e⟩ := List.getElem?_eq_some_iff.mp e
  rw [← e]
  exact List.set_getElem_self hi
theorem Rl.own_fresh {F H : Hp} {σ : L2.St} {ρ : Ev} {i : Nat} {ds : List PyData} (R : Rl c F H σ ρ) (q : ρ[i]? = some (Sl.own ds)) : ∃ a vs, vAt σ i = some (.ref a) ∧ H a = some (.lst vs) ∧ Fresh c F H σ (ρ.set i .un) a ds ∧ Rl c F H σ (ρ.set i .un) := by
  obtain ⟨a, vs, e1, e2, e3, e4, e5, e6⟩ := R.sl i _ q
  have hi : i < ρ.length := (List.getElem?_eq_some_iff.mp q).1
  have old : ∀ j es, (ρ.set i .un)[j]? = some (Sl.own es) → i ≠ j ∧ ρ[j]? = some (Sl.own es) := fun j es h => by
    have n : i ≠ j := fun z => by
      subst z
      rw [List.getElem?_set_self hi] at h
      cases h
    rw [List.getElem?_set_ne n] at h
    exact ⟨n, h⟩
  have oldk : ∀ j es, (ρ.set i .un)[j]? = some (Sl.dic es) → ρ[j]? = some (Sl.dic es) := fun j es h => by
    have n : i ≠ j := fun z => by
      subst z
      rw [List.getElem?_set_self hi] at h
      cases h
    rw [List.getElem?_set_ne n] at h
    exact h
  refine ⟨a, vs, e1, e2, ⟨⟨vs, e2, e3⟩, e4, e5, e6, fun j es h z => ?_⟩, R.slots (by rw [List.length_set]; exact R.len) (fun j sl h => ?_) (fun j k b es fs h1 h2 h3 h4 => R.dj j k b es fs (old j es h1).2 (old k fs h2).2 h3 h4) (fun j k es fs h1 h2 => ?_) (fun j k b es fs h1 h2 h3 h4 => R.dk j k b es fs (oldk j es h1) (oldk k fs h2) h3 h4)⟩
  · obtain ⟨n, h⟩ := old j es h
    exact n (R.dj i j a ds es q h e1 z)
  · by_cases n : i = j
    · subst n
      rw [List.getElem?_set_self hi] at h
      cases h
      trivial
    · rw [List.getElem?_set_ne n] at h
      exact R.sl j sl h
  · have n1 : i ≠ j := fun z => by
      subst z
      rw [List.getElem?_set_self hi] at h1
      cases h1
    have n2 : i ≠ k := fun z => by
      subst z
      rw [List.getElem?_set_self hi] at h2
      cases h2
    rw [List.getElem?_set_ne n1] at h1
    rw [List.getElem?_set_ne n2] at h2
    exact R.iu j k es fs h1 h2
theorem set_set_ev (ρ : Ev) (i : Nat) (a b : Sl) : (ρ.set i a).set i b = ρ.set i b := by
  apply List.ext_getElem?
  intro j
  by_cases h : i = j
  · subst h
    by_cases hi : i < ρ.length
    · rw [List.getElem?_set_self (by rw [List.length_set]; exact hi), List.getElem?_set_self hi]
    · rw [List.getElem?_eq_none (by simpa using hi), List.getElem?_eq_none (by simpa using hi)]
  · rw [List.getElem?_set_ne h, List.getElem?_set_ne h, List.getElem?_set_ne h]
/-- a dict becomes data -/
theorem Rl.dic_freeze {F H : Hp} {σ : L2.St} {ρ : Ev} {i : Nat} {kvs : List (PyData × PyData)} (R : Rl c F H σ ρ) (q : ρ[i]? = some (Sl.dic kvs)) : ∃ a xs, vAt σ i = some (.ref a) ∧ H a = some (DkO a xs) ∧ F a = none ∧ Dz c.K (upd F a (DkO a xs)) (.ref a) (.dict kvs) ∧ Same F (upd F a (DkO a xs)) ∧ Rl c (upd F a (DkO a xs)) H σ (ρ.set i (.dat (.dict kvs))) := by
  obtain ⟨a, xs, e1, e2, e3, e4, e5, e6⟩ := R.sl i _ q
  have hi : i < ρ.length := (List.getElem?_eq_some_iff.mp q).1
  have sF : Same F (upd F a (DkO a xs)) := fun b o z => by
    rw [upd_ne (ne_of_none z e4)]
    exact z
  have dd : Dz c.K (upd F a (DkO a xs)) (.ref a) (.dict kvs) := .dct upd_same (dpKv_same sF e3)
  have nio : ∀ b ∈ c.io, b ≠ a := fun b hb z => (R.ioh b hb).1 (by rw [z]; exact e6)
  have tf : TF c.K (upd F a (DkO a xs)) := ⟨fun b o e => by
    by_cases hb : b = a
    · rw [hb, upd_same] at e
      cases e
      trivial
    · rw [upd_ne hb] at e
      exact R.tf.a b o e, R.tf.k⟩
  refine ⟨a, xs, e1, e2, e4, dd, sF, ?_, fun b o e => ?_, fun P hP => ?_, R.tb, R.mono.trans sF, R.fr, fun b hb => ?_, fun j sl e => ?_, fun j k b es fs h1 h2 h3 h4 => ?_, fun j k es fs h1 h2 => ?_, fun b h1 h2 => ?_, tf, fun j k b es fs h1 h2 h3 h4 => ?_⟩
  · rw [List.length_set]
    exact R.len
  · by_cases hb : b = a
    · rw [hb, upd_same] at e
      rw [hb, e2]
      exact e
    · rw [upd_ne hb] at e
      exact R.sub _ _ e
  · have : P ≠ a := fun z => e5 (by rw [← z]; exact hP)
    rw [upd_ne this]
    exact R.ft P hP
  · obtain ⟨h1, h2, h3, h4⟩ := R.ioh b hb
    exact ⟨h1, h2, by rw [upd_ne (nio b hb)]; exact h3, h4⟩
  · by_cases hj : i = j
    · subst hj
      rw [List.getElem?_set_self hi] at e
      cases e
      exact ⟨_, e1, dd⟩
    · rw [List.getElem?_set_ne hj] at e
      have old := R.sl j sl e
      cases sl with
      | un => trivial
      | fn n => exact old
      | dat d =>
        obtain ⟨w, x1, h1⟩ := old
        exact ⟨w, x1, dp_same sF h1⟩
      | own es =>
        obtain ⟨b, ws, x1, h1, h2, h3, h4⟩ := old
        have nb : b ≠ a := fun z => by
          rw [z, e2] at h1
          cases h1
        exact ⟨b, ws, x1, h1, dpAll_same sF h2, by rw [upd_ne nb]; exact h3, h4⟩
      | io es =>
        obtain ⟨b, ws, x0, x1, h1, h2, h3, h4⟩ := old
        exact ⟨b, ws, x0, x1, h1, dpAll_same sF h2, by rw [upd_ne (nio b (by rw [x0]; simp))]; exact h3, h4⟩
      | dic es =>
        obtain ⟨b, ws, x1, h1, h2, h3, h4⟩ := old
        have nb : b ≠ a := fun z => hj (R.dk i j a kvs es q e e1 (by rw [x1, z]))
        exact ⟨b, ws, x1, h1, dpKv_same sF h2, by rw [upd_ne nb]; exact h3, h4⟩
  · have n1 : i ≠ j := fun z => by
      subst z
      rw [List.getElem?_set_self hi] at h1
      cases h1
    have n2 : i ≠ k := fun z => by
      subst z
      rw [List.getElem?_set_self hi] at h2
      cases h2
    rw [List.getElem?_set_ne n1] at h1
    rw [List.getElem?_set_ne n2] at h2
    exact R.dj j k b es fs h1 h2 h3 h4
  · have n1 : i ≠ j := fun z => by
      subst z
      rw [List.getElem?_set_self hi] at h1
      cases h1
    have n2 : i ≠ k := fun z => by
      subst z
      rw [List.getElem?_set_self hi] at h2
      cases h2
    rw [List.getElem?_set_ne n1] at h1
    rw [List.getElem?_set_ne n2] at h2
    exact R.iu j k es fs h1 h2
  · have nb : b ≠ a := fun z => h1 (by rw [z]; exact e6)
    rw [upd_ne nb]
    exact R.nw b h1 h2
  · have n1 : i ≠ j := fun z => by
      subst z
      rw [List.getElem?_set_self hi] at h1
      cases h1
    have n2 : i ≠ k := fun z => by
      subst z
      rw [List.getElem?_set_self hi] at h2
      cases h2
    rw [List.getElem?_set_ne n1] at h1
    rw [List.getElem?_set_ne n2] at h2
    exact R.dk j k b es fs h1 h2 h3 h4
theorem eo_v (i : Nat) {x : Str} (h : PE X (.Name x pos) (tVar i)) : EO c X (.Name x pos) (sV i) := by
  refine ⟨pe_imp h fun σ H Q ⟨F, ρ, y, ρ', R, e, k⟩ => ?_⟩
  unfold sV at e
  cases q : ρ[i]? with
  | none => simp [q] at e
  | some sl =>
    have ok := R.sl i sl q
    cases sl with
    | un => simp [q] at e
    | fn n => simp [q] at e
    | io ds => simp [q] at e
    | dat d =>
      simp only [q, Option.some.injEq, Prod.mk.injEq] at e
      obtain ⟨rfl, rfl⟩ := e
      obtain ⟨w, e1, e2⟩ := ok
      exact ⟨w, vAt_eq e1, k w H F (Same.refl _) R e2⟩
    | own ds =>
      simp only [q, Option.some.injEq, Prod.mk.injEq] at e
      obtain ⟨rfl, rfl⟩ := e
      obtain ⟨a, vs, e1, e2, fr, R1⟩ := R.own_fresh q
      have R2 := (R1.freeze fr e2)
      have e3' : DzAll c.K F vs ds := by
        obtain ⟨us, u1, u2⟩ := fr.at_
        rw [e2] at u1
        cases u1
        exact u2
      have dd : Dz c.K (upd F a (.lst vs)) (.ref a) (.list ds) := dp_frozen fr.nf e3'
      have R3 := R2.set (i := i) dd
      rw [set_self e1, set_set_ev] at R3
      exact ⟨.ref a, vAt_eq e1, k (.ref a) H _ (fun b o z => by rw [upd_ne (ne_of_none z fr.nf)]; exact z) R3 dd⟩
    | dic kvs =>
      simp only [q, Option.some.injEq, Prod.mk.injEq] at e
      obtain ⟨rfl, rfl⟩ := e
      obtain ⟨a, xs, e1, e2, nf, dd, sF, R1⟩ := R.dic_freeze q
      exact ⟨.ref a, vAt_eq e1, k (.ref a) H _ sF R1 dd⟩
theorem eo_c {v : V} {d : PyData} (h : PE X e (tC v)) (hd : ∀ F, Dz c.K F v d) : EO c X e (sC d) := by
  refine ⟨pe_imp h fun σ H Q ⟨F, ρ, y, ρ', R, e, k⟩ => ?_⟩
  simp only [sC, Option.some.injEq, Prod.mk.injEq] at e
  obtain ⟨rfl, rfl⟩ := e
  exact k v H F (Same.refl _) R (hd F)
theorem eo_int {i : Int} {j : Nat} : EO c X (.Constant (.int i) j pos) (sC (.int i)) := eo_c pe_int fun _ => .int i
theorem eo_bl {i : Bool} {j : Nat} : EO c X (.Constant (.bool i) j pos) (sC (.bool i)) := eo_c pe_bl fun _ => .bl i
theorem eo_non {j : Nat} : EO c X (.Constant .none j pos) (sC .none) := eo_c pe_non fun _ => .non
theorem eo_str {i : Str} {j : Nat} : EO c X (.Constant (.str i) j pos) (sC (.str i)) := eo_c pe_str fun _ => .str i
/-- an int of the module -/
theorem eo_gint {x : Str} {i : Int} {t : Tok} (hg : Gl X x) (hm : X.mg x = some (.int i t)) (hd : (x == ("__debug__" : Str)) = false := by decide) : EO c X (.Name x pos) (sC (.int i)) := eo_c (pe_glob (v := .int i) hg hm ⟨t, rfl⟩ hd) fun _ => .int i

/-! ### two-place operations -/
def s2 (f : PyData → PyData → Option PyData) (fa fb : SE) : SE := fun ρ => match fa ρ with
  | none => none
  | some (x, ρ1) => match fb ρ1 with
    | none => none
    | some (y, ρ2) => match res ρ2 x, res ρ2 y with
      | some d, some e => (f d e).map fun z => (.d z, ρ2)
      | _, _ => none
theorem s2_inv {f : PyData → PyData → Option PyData} {ρ ρ' : Ev} {x : Ob} (h : s2 f fa fb ρ = some (x, ρ')) :
    ∃ u ρ1 v d e z, fa ρ = some (u, ρ1) ∧ fb ρ1 = some (v, ρ') ∧ res ρ' u = some d ∧ res ρ' v = some e ∧ f d e = some z ∧ x = .d z := by
  unfold s2 at h
  cases h1 : fa ρ with
  | none => simp [h1] at h
  | some p =>
    obtain ⟨u, ρ1⟩ := p
    simp only [h1] at h
    cases h2 : fb ρ1 with
    | none => simp [h2] at h
    | some q =>
      obtain ⟨v, ρ2⟩ := q
      simp only [h2] at h
      cases h3 : res ρ2 u with
      | none => simp [h3] at h
      | some d =>
        cases h4 : res ρ2 v with
        | none => simp [h3, h4] at h
        | some e =>
          simp only [h3, h4] at h
          cases h5 : f d e with
          | none => simp [h5] at h
          | some z =>
            simp only [h5, Option.map_some, Option.some.injEq, Prod.mk.injEq] at h
            obtain ⟨rfl, rfl⟩ := h
            exact ⟨u, ρ1, v, d, e, z, rfl, h2, h3, h4, h5, rfl⟩
/-- what r asks of the values holds where f gives data -/
def L2ok (K : PySem.W.Frag) (r : R2) (f : PyData → PyData → Option PyData) : Prop :=
  ∀ (F H : Hp) (x y : V) (d e z : PyData) (Q : VK), Same F H → Vw K F H x d → Vw K F H y e → f d e = some z → (∀ v F' H', Xt F H F' H' → Dz K F' v z → Q v H') → r x y H Q
theorem op2_use {r : R2} {f : PyData → PyData → Option PyData} (hl : L2ok c.K r f) {σ : L2.St} {H : Hp} {Q : VK} (h : rE c (s2 f fa fb) σ H Q) : tOp r (rE c fa) (rE c fb) σ H Q := by
  obtain ⟨F, ρ, x, ρ', R, e, k⟩ := h
  obtain ⟨u, ρ1, v, d, e', z, h1, h2, h3, h4, h5, rfl⟩ := s2_inv e
  refine ⟨F, ρ, u, ρ1, R, h1, fun xv H1 F1 s1 R1 o1 => ⟨F1, ρ1, v, ρ', R1, h2, fun yv H2 F2 s2 R2 o2 => ?_⟩⟩
  exact hl F2 H2 xv yv d e' z Q R2.sub (R2.vw (o1.same s2) h3) (R2.vw o2 h4) h5 fun w F3 H3 xt dz => k w H3 F3 (s1.trans (s2.trans xt.f)) (R2.xt xt) dz
theorem eo_op {op : Operator} {r : R2} {f : PyData → PyData → Option PyData} (ho : OpR X (binaryOp op) r) (hl : L2ok c.K r f) (ha : EO c X a fa) (hb : EO c X b fb) : EO c X (.BinOp a op b pos) (s2 f fa fb) :=
  ⟨pe_imp (pe_op ho ha.pe hb.pe) fun _ _ _ h => op2_use hl h⟩
theorem eo_cmp {op : CmpOp} {r : R2} {f : PyData → PyData → Option PyData} (ho : OpR X (compareOp op) r) (hl : L2ok c.K r f) (ha : EO c X a fa) (hb : EO c X b fb) (hm : behindInMarks op b = false) : EO c X (.Compare a [op] [b] pos) (s2 f fa fb) :=
  ⟨pe_imp (pe_cmpR ho ha.pe hb.pe hm) fun _ _ _ h => op2_use hl h⟩
theorem eo_ix {r : R2} {f : PyData → PyData → Option PyData} (ho : IxR X r) (hl : L2ok c.K r f) (ha : EO c X a fa) (hb : EO c X b fb) (hs : PlainIx b) : EO c X (.Subscript a b pos) (s2 f fa fb) :=
  ⟨pe_imp (pe_ix ho ha.pe hb.pe hs) fun _ _ _ h => op2_use hl h⟩
/-- the same as a test -/
def toT (f : SE) : STe := fun ρ => match f ρ with
  | some (.d (.bool b), ρ') => some (b, ρ')
  | _ => none
theorem toT_inv {f : SE} {ρ ρ' : Ev} {b : Bool} (h : toT f ρ = some (b, ρ')) : f ρ = some (.d (.bool b), ρ') := by
  unfold toT at h
  cases e : f ρ with
  | none => simp [e] at h
  | some p =>
    obtain ⟨x, ρ1⟩ := p
    cases x with
    | s i => simp [e] at h
    | d z =>
      cases z with
      | bool b' =>
        simp only [e, Option.some.injEq, Prod.mk.injEq] at h
        obtain ⟨rfl, rfl⟩ := h
        rfl
      | _ => simp [e] at h
theorem rT_toT {f : SE} {σ : L2.St} {H : Hp} {Q : Bool → Hp → Prop} (h : rT c (toT f) σ H Q) : rE c f σ H fun x H' => ∃ k, x = .bl k ∧ Q k H' := by
  obtain ⟨F, ρ, b, ρ', R, e, k⟩ := h
  refine ⟨F, ρ, _, ρ', R, toT_inv e, fun v H' F' s R' o => ?_⟩
  cases o
  exact ⟨b, rfl, k H' F' s R'⟩
theorem et_cmp {op : CmpOp} {r : R2} {f : PyData → PyData → Option PyData} (ho : OpR X (compareOp op) r) (hl : L2ok c.K r f) (ha : EO c X a fa) (hb : EO c X b fb) (hm : behindInMarks op b = false) : ET c X (.Compare a [op] [b] pos) (toT (s2 f fa fb)) :=
  ⟨pt_imp (pt_cmpR ho ha.pe hb.pe hm) fun _ _ _ h => op2_use hl (rT_toT h)⟩
/-- a truth value as a test -/
theorem et_val (ha : EO c X e fa) (he : ∀ whole, isTrue e X.env whole = (do let v ← whole; standAt e.pos; holding [v] (truthy v)) := by intro _; rfl) : ET c X e (toT fa) :=
  ⟨pt_imp (pt_val ha.pe he) fun _ _ _ h => rT_toT h⟩
def truth : PyData → Option Bool
  | .none => some false
  | .bool b => some b
  | .int i => some (i != 0)
  | .list xs => some (!xs.isEmpty)
  | .tuple xs => some (!xs.isEmpty)
  | _ => none
def sTr (f : SE) : STe := fun ρ => match f ρ with
  | some (x, ρ') => match res ρ' x with
    | some d => (truth d).map fun b => (b, ρ')
    | none => none
  | none => none

/-! ### chains -/
def sChain (f g : PyData → PyData → Option PyData) (fa fb fc : SE) : SE := fun ρ => match fa ρ with
  | none => none
  | some (x, ρ1) => match fb ρ1 with
    | none => none
    | some (y, ρ2) => match res ρ2 x, res ρ2 y with
      | some d, some e => match f d e with
        | some (.bool true) => match fc ρ2 with
          | none => none
          | some (z, ρ3) => match res ρ3 y, res ρ3 z with
            | some e', some h => (g e' h).map fun w => (.d w, ρ3)
            | _, _ => none
        | some (.bool false) => some (.d (.bool false), ρ2)
        | _ => none
      | _, _ => none

/-! ### and, or, not, the choice -/
def sAnd (fa fb : SE) : SE := fun ρ => match fa ρ with
  | some (.d (.bool true), ρ1) => fb ρ1
  | some (.d (.bool false), ρ1) => some (.d (.bool false), ρ1)
  | _ => none
def sOr (fa fb : SE) : SE := fun ρ => match fa ρ with
  | some (.d (.bool false), ρ1) => fb ρ1
  | some (.d (.bool true), ρ1) => some (.d (.bool true), ρ1)
  | _ => none
def sNot (fa : SE) : SE := fun ρ => match fa ρ with
  | some (.d (.bool b), ρ1) => some (.d (.bool (!b)), ρ1)
  | _ => none
theorem bool_cases {f : SE} {ρ : Ev} {α : Type} {k1 k2 : Ev → Option α} {z : α} (h : (match f ρ with
    | some (.d (.bool true), ρ1) => k1 ρ1
    | some (.d (.bool false), ρ1) => k2 ρ1
    | _ => none) = some z) : ∃ b ρ1, f ρ = some (.d (.bool b), ρ1) ∧ (if b = true then k1 ρ1 else k2 ρ1) = some z := by
  cases e : f ρ with
  | none => simp [e] at h
  | some p =>
    obtain ⟨x, ρ1⟩ := p
    cases x with
    | s i => simp [e] at h
    | d w =>
      cases w with
      | bool b =>
        cases b with
        | true => exact ⟨true, ρ1, rfl, by simpa [e] using h⟩
        | false => exact ⟨false, ρ1, rfl, by simpa [e] using h⟩
      | _ => simp [e] at h
theorem eo_and {rest : List Expr} (ha : EO c X a fa) (hb : EO c X (.BoolOp .And (b :: rest) pos) fb) : EO c X (.BoolOp .And (a :: b :: rest) pos) (sAnd fa fb) := by
  refine ⟨pe_imp (pe_and ha.pe hb.pe) fun σ H Q ⟨F, ρ, x, ρ', R, e, k⟩ => ?_⟩
  obtain ⟨t, ρ1, h1, h2⟩ := bool_cases (f := fa) (k1 := fb) (k2 := fun ρ1 => some (.d (.bool false), ρ1)) e
  refine ⟨F, ρ, _, ρ1, R, h1, fun v H' F' s R' o => ?_⟩
  cases o
  refine ⟨t, rfl, ?_⟩
  cases t with
  | true => exact ⟨F', ρ1, x, ρ', R', h2, fun w H2 F2 s2 R2 o2 => k w H2 F2 (s.trans s2) R2 o2⟩
  | false =>
    simp only [Bool.false_eq_true, if_false, Option.some.injEq, Prod.mk.injEq] at h2 ⊢
    obtain ⟨rfl, rfl⟩ := h2
    exact k _ H' F' s R' (.bl false)
theorem eo_or {rest : List Expr} (ha : EO c X a fa) (hb : EO c X (.BoolOp .Or (b :: rest) pos) fb) : EO c X (.BoolOp .Or (a :: b :: rest) pos) (sOr fa fb) := by
  refine ⟨pe_imp (pe_or ha.pe hb.pe) fun σ H Q ⟨F, ρ, x, ρ', R, e, k⟩ => ?_⟩
  obtain ⟨t, ρ1, h1, h2⟩ := bool_cases (f := fa) (k1 := fun ρ1 => some (.d (.bool true), ρ1)) (k2 := fb) (z := (x, ρ')) (by
    rw [← e]
    unfold sOr
    cases fa ρ with
    | none => rfl
    | some p =>
      obtain ⟨y, r⟩ := p
      cases y with
      | s i => rfl
      | d w => cases w with
        | bool b => cases b <;> rfl
        | _ => rfl)
  refine ⟨F, ρ, _, ρ1, R, h1, fun v H' F' s R' o => ?_⟩
  cases o
  refine ⟨t, rfl, ?_⟩
  cases t with
  | false => exact ⟨F', ρ1, x, ρ', R', h2, fun w H2 F2 s2 R2 o2 => k w H2 F2 (s.trans s2) R2 o2⟩
  | true =>
    simp only [if_true, Option.some.injEq, Prod.mk.injEq] at h2 ⊢
    obtain ⟨rfl, rfl⟩ := h2
    exact k _ H' F' s R' (.bl true)
theorem eo_one {op : BoolOp} (ha : EO c X a fa) : EO c X (.BoolOp op [a] pos) fa := ⟨pe_one ha.pe⟩
theorem eo_not (ha : EO c X a fa) : EO c X (.UnaryOp .Not a pos) (sNot fa) := by
  refine ⟨pe_imp (pe_not ha.pe) fun σ H Q ⟨F, ρ, x, ρ', R, e, k⟩ => ?_⟩
  obtain ⟨t, ρ1, h1, h2⟩ := bool_cases (f := fa) (k1 := fun ρ1 => some (Ob.d (.bool false), ρ1)) (k2 := fun ρ1 => some (Ob.d (.bool true), ρ1)) (z := (x, ρ')) (by
    rw [← e]
    unfold sNot
    cases fa ρ with
    | none => rfl
    | some p =>
      obtain ⟨y, r⟩ := p
      cases y with
      | s i => rfl
      | d w => cases w with
        | bool b => cases b <;> rfl
        | _ => rfl)
  refine ⟨F, ρ, _, ρ1, R, h1, fun v H' F' s R' o => ?_⟩
  cases o
  refine ⟨t, rfl, ?_⟩
  cases t with
  | true =>
    simp only [if_true, Option.some.injEq, Prod.mk.injEq] at h2
    obtain ⟨rfl, rfl⟩ := h2
    exact k _ H' F' s R' (.bl false)
  | false =>
    simp only [Bool.false_eq_true, if_false, Option.some.injEq, Prod.mk.injEq] at h2
    obtain ⟨rfl, rfl⟩ := h2
    exact k _ H' F' s R' (.bl true)
def sIf (t : STe) (fa fb : SE) : SE := fun ρ => match t ρ with
  | some (true, ρ1) => fa ρ1
  | some (false, ρ1) => fb ρ1
  | none => none
theorem eo_if {t : STe} {q : Expr} (ht : ET c X q t) (ha : EO c X a fa) (hb : EO c X b fb) : EO c X (.IfExp q a b pos) (sIf t fa fb) := by
  refine ⟨pe_imp (pe_ifExp ht.pt ha.pe hb.pe) fun σ H Q ⟨F, ρ, x, ρ', R, e, k⟩ => ?_⟩
  unfold sIf at e
  cases h1 : t ρ with
  | none => simp [h1] at e
  | some p =>
    obtain ⟨bb, ρ1⟩ := p
    refine ⟨F, ρ, bb, ρ1, R, h1, fun H' F' s R' => ?_⟩
    cases bb with
    | true =>
      simp only [h1] at e
      exact ⟨F', ρ1, x, ρ', R', e, fun w H2 F2 s2 R2 o2 => k w H2 F2 (s.trans s2) R2 o2⟩
    | false =>
      simp only [h1] at e
      exact ⟨F', ρ1, x, ρ', R', e, fun w H2 F2 s2 R2 o2 => k w H2 F2 (s.trans s2) R2 o2⟩
/-! ### tests -/
def tAnd' (ta tb : STe) : STe := fun ρ => match ta ρ with
  | some (true, ρ1) => tb ρ1
  | some (false, ρ1) => some (false, ρ1)
  | none => none
def tOr' (ta tb : STe) : STe := fun ρ => match ta ρ with
  | some (false, ρ1) => tb ρ1
  | some (true, ρ1) => some (true, ρ1)
  | none => none
def tNot' (ta : STe) : STe := fun ρ => match ta ρ with
  | some (b, ρ1) => some (!b, ρ1)
  | none => none
theorem ew_and {ta tb : STe} {rest : List Expr} (ha : ET c X a ta) (hb : EW c X (.BoolOp .And (b :: rest) pos) tb) : EW c X (.BoolOp .And (a :: b :: rest) pos) (tAnd' ta tb) := by
  refine ⟨pw_imp (pw_and ha.pt hb.pw) fun σ H Q ⟨F, ρ, x, ρ', R, e, k⟩ => ?_⟩
  unfold tAnd' at e
  cases h1 : ta ρ with
  | none => simp [h1] at e
  | some p =>
    obtain ⟨bb, ρ1⟩ := p
    refine ⟨F, ρ, bb, ρ1, R, h1, fun H' F' s R' => ?_⟩
    cases bb with
    | true =>
      simp only [h1] at e
      exact ⟨F', ρ1, x, ρ', R', e, fun H2 F2 s2 R2 => k H2 F2 (s.trans s2) R2⟩
    | false =>
      simp only [h1, Option.some.injEq, Prod.mk.injEq] at e
      obtain ⟨rfl, rfl⟩ := e
      exact k H' F' s R'
theorem ew_or {ta tb : STe} {rest : List Expr} (ha : ET c X a ta) (hb : EW c X (.BoolOp .Or (b :: rest) pos) tb) : EW c X (.BoolOp .Or (a :: b :: rest) pos) (tOr' ta tb) := by
  refine ⟨pw_imp (pw_or ha.pt hb.pw) fun σ H Q ⟨F, ρ, x, ρ', R, e, k⟩ => ?_⟩
  unfold tOr' at e
  cases h1 : ta ρ with
  | none => simp [h1] at e
  | some p =>
    obtain ⟨bb, ρ1⟩ := p
    refine ⟨F, ρ, bb, ρ1, R, h1, fun H' F' s R' => ?_⟩
    cases bb with
    | false =>
      simp only [h1] at e
      exact ⟨F', ρ1, x, ρ', R', e, fun H2 F2 s2 R2 => k H2 F2 (s.trans s2) R2⟩
    | true =>
      simp only [h1, Option.some.injEq, Prod.mk.injEq] at e
      obtain ⟨rfl, rfl⟩ := e
      exact k H' F' s R'
theorem ew_and1 {ta : STe} (ha : ET c X a ta) : EW c X (.BoolOp .And [a] pos) ta := ⟨pw_and1 ha.pt⟩
theorem ew_or1 {ta : STe} (ha : ET c X a ta) : EW c X (.BoolOp .Or [a] pos) ta := ⟨pw_or1 ha.pt⟩
theorem et_w {ta : STe} (h : EW c X e ta) : ET c X e ta := ⟨h.pw.pt⟩
theorem et_not {ta : STe} (ha : ET c X a ta) : ET c X (.UnaryOp .Not a pos) (tNot' ta) := by
  refine ⟨pt_imp (pt_not ha.pt) fun σ H Q ⟨F, ρ, x, ρ', R, e, k⟩ => ?_⟩
  unfold tNot' at e
  cases h1 : ta ρ with
  | none => simp [h1] at e
  | some p =>
    obtain ⟨bb, ρ1⟩ := p
    simp only [h1, Option.some.injEq, Prod.mk.injEq] at e
    obtain ⟨rfl, rfl⟩ := e
    exact ⟨F, ρ, bb, ρ1, R, h1, fun H' F' s R' => k H' F' s R'⟩
/-! ### argument lists -/
def sNil : SA := fun ρ => some ([], ρ)
def sCons (fa : SE) (fr : SA) : SA := fun ρ => match fa ρ with
  | none => none
  | some (x, ρ1) => match fr ρ1 with
    | none => none
    | some (xs, ρ2) => some (x :: xs, ρ2)
theorem ea_nil : EA c X [] sNil := by
  refine ⟨pa_imp pa_nil fun σ H Q ⟨F, ρ, x, ρ', R, e, k⟩ => ?_⟩
  simp only [sNil, Option.some.injEq, Prod.mk.injEq] at e
  obtain ⟨rfl, rfl⟩ := e
  exact k [] H F (Same.refl _) R trivial
theorem ea_cons {es : List Expr} {fr : SA} (ha : EO c X e fa) (hr : EA c X es fr) (hs : starEach (e :: es) X.env = (false, eval e X.env) :: starEach es X.env := by rfl) : EA c X (e :: es) (sCons fa fr) := by
  refine ⟨pa_imp (pa_cons ha.pe hr.pa hs) fun σ H Q ⟨F, ρ, x, ρ', R, e, k⟩ => ?_⟩
  unfold sCons at e
  cases h1 : fa ρ with
  | none => simp [h1] at e
  | some p =>
    obtain ⟨u, ρ1⟩ := p
    simp only [h1] at e
    cases h2 : fr ρ1 with
    | none => simp [h2] at e
    | some q =>
      obtain ⟨us, ρ2⟩ := q
      simp only [h2, Option.some.injEq, Prod.mk.injEq] at e
      obtain ⟨rfl, rfl⟩ := e
      exact ⟨F, ρ, u, ρ1, R, h1, fun v H1 F1 s1 R1 o1 => ⟨F1, ρ1, us, ρ2, R1, h2, fun vs H2 F2 s2 R2 o2 => k (v :: vs) H2 F2 (s1.trans s2) R2 ⟨o1.same s2, o2⟩⟩⟩
end
end PD

/-! Plain data: targets, statements, loops -/
namespace PD
open PySem PySem.Spec PyProof.Rows L2 GxR

inductive Fl where
  | nx | rt (d : PyData) | bk | ct
abbrev SS := Ev → Option (Fl × Ev)
abbrev SG := PyData → Ev → Option Ev
abbrev SGs := List PyData → Ev → Option Ev
abbrev SI := Ev → Option (List PyData × Ev)

def FlK (c : Co) (F : Hp) (D : Ends) (fl : Fl) (σ : L2.St) (H : Hp) : Prop := match fl with
  | .nx => D.nx σ H
  | .bk => D.bk σ H
  | .ct => D.ct σ H
  | .rt d => ∀ v, Dz c.K F v d → D.rt v H
def rS (c : Co) (f : SS) : TS := fun D σ H => ∃ F ρ fl ρ', Rl c F H σ ρ ∧ f ρ = some (fl, ρ') ∧ ∀ σ' H' F', Same F F' → Rl c F' H' σ' ρ' → FlK c F' D fl σ' H'
/-- alike but at the places ks -/
def But (ks : List Nat) (σ σ' : L2.St) : Prop := σ'.length = σ.length ∧ ∀ j : Nat, j ∉ ks → σ'[j]? = σ[j]?
def rG (c : Co) (g : SG) (ks : List Nat) : TG := fun x σ H Q => ∃ F ρ d ρ', Rl c F H σ ρ ∧ Dz c.K F x d ∧ g d ρ = some ρ' ∧ ∀ σ', But ks σ σ' → Rl c F H σ' ρ' → Q σ' H
def rGs (c : Co) (g : SGs) (ks : List Nat) : TGs := fun xs σ H Q => ∃ F ρ ds ρ', Rl c F H σ ρ ∧ DzAll c.K F xs ds ∧ g ds ρ = some ρ' ∧ ∀ σ', But ks σ σ' → Rl c F H σ' ρ' → Q σ' H
/-- from F on, J yields the items -/
structure Wk (c : Co) (J : It) (F : Hp) (items : List PyData) : Prop where
  go : ∀ i d F2 H2, items[i]? = some d → Same F F2 → Same F2 H2 → J.go i H2 ∧ ∀ x H3, J.yld i H2 x H3 → ∃ F3, Xt F2 H2 F3 H3 ∧ Dz c.K F3 x d
  stop : ∀ F2 H2, Same F F2 → Same F2 H2 → J.stop items.length H2
def rIt (c : Co) (f : SI) : TI := fun σ H R => ∃ F ρ items ρ', Rl c F H σ ρ ∧ f ρ = some (items, ρ') ∧ ∀ J H' F', Same F F' → Rl c F' H' σ ρ' → Wk c J F' items → R J H'

structure ES (c : Co) (X : Cx) (s : Stmt) (f : SS) : Prop where
  ps : PS X s (rS c f)
structure ESs (c : Co) (X : Cx) (s : List Stmt) (f : SS) : Prop where
  pss : PSs X s (rS c f)
structure EG (c : Co) (X : Cx) (e : Expr) (g : SG) (ks : List Nat) : Prop where
  pg : PG X e (rG c g ks)
structure EGs (c : Co) (X : Cx) (e : List Expr) (g : SGs) (ks : List Nat) : Prop where
  pgs : PGs X e (rGs c g ks)
structure EI (c : Co) (X : Cx) (tg e : Expr) (f : SI) : Prop where
  pi : PI X tg e (rIt c f)

theorem ps_imp {X : Cx} {e : Stmt} {t t' : TS} (h : PS X e t) (i : ∀ D σ H, t' D σ H → t D σ H) : PS X e t' := ⟨fun pins s σ H D I q => h.run pins s σ H D I (i D σ H q)⟩
theorem pss_imp {X : Cx} {e : List Stmt} {t t' : TS} (h : PSs X e t) (i : ∀ D σ H, t' D σ H → t D σ H) : PSs X e t' := ⟨fun pins s σ H D I q => h.run pins s σ H D I (i D σ H q)⟩
theorem pg_imp {X : Cx} {e : Expr} {t t' : TG} (h : PG X e t) (i : ∀ x σ H Q, t' x σ H Q → t x σ H Q) : PG X e t' := ⟨fun pins s σ H v u Q I r q => h.run pins s σ H v u Q I r (i v σ H Q q)⟩
theorem pgs_imp {X : Cx} {e : List Expr} {t t' : TGs} (h : PGs X e t) (i : ∀ x σ H Q, t' x σ H Q → t x σ H Q) : PGs X e t' := ⟨fun pins s σ H v u Q I r q => h.run pins s σ H v u Q I r (i v σ H Q q)⟩

section
variable {c : Co} {X : Cx} {e tg : Expr} {pos : Pos}
/-! ### targets -/
def gN (i : Nat) : SG := fun d ρ => some (ρ.set i (.dat d))
theorem eg_n (i : Nat) {x : Str} (h : PG X (.Name x pos) (gName i)) : EG c X (.Name x pos) (gN i) [i] := by
  refine ⟨pg_imp h fun x σ H Q ⟨F, ρ, d, ρ', R, hx, e, k⟩ => ?_⟩
  cases e
  exact k _ ⟨List.length_set, fun j hj => List.getElem?_set_ne (fun z => hj (by rw [z]; simp))⟩ (R.set hx)
def gsNil : SGs := fun ds ρ => match ds with
  | [] => some ρ
  | _ => none
def gsCons (g : SG) (gs : SGs) : SGs := fun ds ρ => match ds with
  | d :: r => match g d ρ with
    | some ρ1 => gs r ρ1
    | none => none
  | _ => none
theorem egs_nil : EGs c X [] gsNil [] := by
  refine ⟨pgs_imp pgs_nil fun xs σ H Q ⟨F, ρ, ds, ρ', R, hx, e, k⟩ => ?_⟩
  cases hx with
  | nil =>
    cases e
    exact ⟨rfl, k _ ⟨rfl, fun _ _ => rfl⟩ R⟩
  | cons a b => cases e
theorem egs_cons {es : List Expr} {g : SG} {gs : SGs} {ks ls : List Nat} (hg : EG c X e g ks) (hs : EGs c X es gs ls) (h : ∀ {t u}, PG X e t → PGs X es u → PGs X (e :: es) (gCons t u)) : EGs c X (e :: es) (gsCons g gs) (ks ++ ls) := by
  refine ⟨pgs_imp (h hg.pg hs.pgs) fun xs σ H Q ⟨F, ρ, ds, ρ', R, hx, e, k⟩ => ?_⟩
  cases hx with
  | nil => cases e
  | cons a b =>
    unfold gsCons at e
    dsimp only at e
    cases e1 : g _ ρ with
    | none => rw [e1] at e; cases e
    | some ρ1 =>
      rw [e1] at e
      refine ⟨_, _, rfl, F, ρ, _, ρ1, R, a, e1, fun σ1 b1 R1 => ?_⟩
      exact ⟨F, ρ1, _, ρ', R1, b, e, fun σ2 b2 R2 => k σ2 ⟨b2.1.trans b1.1, fun j hj => (b2.2 j fun z => hj (List.mem_append_right _ z)).trans (b1.2 j fun z => hj (List.mem_append_left _ z))⟩ R2⟩
def gT (gs : SGs) (n : Nat) : SG := fun d ρ => match d with
  | .tuple ds => if ds.length = n then gs ds ρ else none
  | _ => none
theorem eg_t {es : List Expr} {k n : Nat} {gs : SGs} {ks : List Nat} (h : EGs c X es gs ks) (hp : ∀ {t}, PGs X es t → PG X (.Tuple es k pos) (gTup X.K n t)) (hK : X.K = c.K) : EG c X (.Tuple es k pos) (gT gs n) ks := by
  refine ⟨pg_imp (hp h.pgs) fun x σ H Q ⟨F, ρ, d, ρ', R, hx, e, k⟩ => ?_⟩
  unfold gT at e
  cases d with
  | tuple ds =>
    simp only at e
    split at e
    · rename_i hn
      cases hx with
      | tup hS hs =>
        refine ⟨_, _, rfl, ?_, by rw [dpAll_len hs]; exact hn, F, ρ, ds, ρ', R, hs, e, k⟩
        rw [hK]
        exact sqT_same R.sub hS
    · cases e
  | _ => cases e

/-! ### statements -/
def sNx : SS := fun ρ => some (.nx, ρ)
def sSeq (f g : SS) : SS := fun ρ => match f ρ with
  | some (.nx, ρ1) => g ρ1
  | r => r
theorem ess_nil : ESs c X [] sNx := by
  refine ⟨pss_imp pss_nil fun D σ H ⟨F, ρ, fl, ρ', R, e, k⟩ => ?_⟩
  cases e
  exact k σ H F (Same.refl _) R
theorem ess_cons {s : Stmt} {ss : List Stmt} {f g : SS} (h1 : ES c X s f) (h2 : ESs c X ss g) : ESs c X (s :: ss) (sSeq f g) := by
  refine ⟨pss_imp (pss_cons h1.ps h2.pss) fun D σ H ⟨F, ρ, fl, ρ', R, e, k⟩ => ?_⟩
  unfold sSeq at e
  cases e1 : f ρ with
  | none => simp [e1] at e
  | some p =>
    obtain ⟨f1, ρ1⟩ := p
    refine ⟨F, ρ, f1, ρ1, R, e1, fun σ' H' F' s' R' => ?_⟩
    cases f1 with
    | nx =>
      simp only [e1] at e
      exact ⟨F', ρ1, fl, ρ', R', e, fun σ2 H2 F2 s2 R2 => k σ2 H2 F2 (s'.trans s2) R2⟩
    | bk =>
      simp only [e1, Option.some.injEq, Prod.mk.injEq] at e
      obtain ⟨rfl, rfl⟩ := e
      exact k σ' H' F' s' R'
    | ct =>
      simp only [e1, Option.some.injEq, Prod.mk.injEq] at e
      obtain ⟨rfl, rfl⟩ := e
      exact k σ' H' F' s' R'
    | rt d =>
      simp only [e1, Option.some.injEq, Prod.mk.injEq] at e
      obtain ⟨rfl, rfl⟩ := e
      exact k σ' H' F' s' R'
theorem ess_one {s : Stmt} {f : SS} (h : ES c X s f) : ESs c X [s] f := ⟨pss_one h.ps⟩
def sAsg (f : SE) (g : SG) : SS := fun ρ => match f ρ with
  | some (.d d, ρ1) => (g d ρ1).map fun ρ2 => (.nx, ρ2)
  | _ => none
theorem es_asg {f : SE} {g : SG} {st : Stmt} (h : ∀ {te : TE} {tg' : TG}, PE X e te → PG X tg tg' → PS X st (tAsg te tg')) (he : EO c X e f) {ks : List Nat} (hg : EG c X tg g ks) : ES c X st (sAsg f g) := by
  refine ⟨ps_imp (h he.pe hg.pg) fun D σ H ⟨F, ρ, fl, ρ', R, e, k⟩ => ?_⟩
  unfold sAsg at e
  cases e1 : f ρ with
  | none => simp [e1] at e
  | some p =>
    obtain ⟨x, ρ1⟩ := p
    cases x with
    | s i => simp [e1] at e
    | d d =>
      simp only [e1] at e
      cases e2 : g d ρ1 with
      | none => simp [e2] at e
      | some ρ2 =>
        simp only [e2, Option.map_some, Option.some.injEq, Prod.mk.injEq] at e
        obtain ⟨rfl, rfl⟩ := e
        exact ⟨F, ρ, _, ρ1, R, e1, fun v H' F' s' R' o => ⟨F', ρ1, d, ρ2, R', o, e2, fun σ2 _ R2 => k σ2 H' F' s' R2⟩⟩
def sRet (f : SE) : SS := fun ρ => match f ρ with
  | some (.d d, ρ1) => some (.rt d, ρ1)
  | _ => none
theorem dp_flat {K : PySem.W.Frag} {F : Hp} {v : V} {d : PyData} (h : Dz K F v d) : ∀ w, Dz K F w d → True := fun _ _ => trivial
def sExp (f : SE) : SS := fun ρ => match f ρ with
  | some (_, ρ1) => some (.nx, ρ1)
  | _ => none
theorem es_exp {f : SE} (he : EO c X e f) (hs : swapsWith e none pos.line X.env = pure false := by rfl) : ES c X (.Expr e pos) (sExp f) := by
  refine ⟨ps_imp (ps_expr he.pe hs) fun D σ H ⟨F, ρ, fl, ρ', R, e, k⟩ => ?_⟩
  unfold sExp at e
  cases e1 : f ρ with
  | none => simp [e1] at e
  | some p =>
    obtain ⟨x, ρ1⟩ := p
    simp only [e1, Option.some.injEq, Prod.mk.injEq] at e
    obtain ⟨rfl, rfl⟩ := e
    exact ⟨F, ρ, x, ρ1, R, e1, fun v H' F' s' R' o => k σ H' F' s' R'⟩
def sIfS (t : STe) (f g : SS) : SS := fun ρ => match t ρ with
  | some (true, ρ1) => f ρ1
  | some (false, ρ1) => g ρ1
  | none => none
theorem es_if {t : STe} {f g : SS} {q : Expr} {a b : List Stmt} (ht : ET c X q t) (ha : ESs c X a f) (hb : ESs c X b g) : ES c X (.If q a b pos) (sIfS t f g) := by
  refine ⟨ps_imp (ps_if ht.pt ha.pss hb.pss) fun D σ H ⟨F, ρ, fl, ρ', R, e, k⟩ => ?_⟩
  unfold sIfS at e
  cases h1 : t ρ with
  | none => simp [h1] at e
  | some p =>
    obtain ⟨bb, ρ1⟩ := p
    refine ⟨F, ρ, bb, ρ1, R, h1, fun H' F' s R' => ?_⟩
    cases bb with
    | true =>
      simp only [h1] at e
      exact ⟨F', ρ1, fl, ρ', R', e, fun σ2 H2 F2 s2 R2 => k σ2 H2 F2 (s.trans s2) R2⟩
    | false =>
      simp only [h1] at e
      exact ⟨F', ρ1, fl, ρ', R', e, fun σ2 H2 F2 s2 R2 => k σ2 H2 F2 (s.trans s2) R2⟩
def sNever : SS := fun _ => none
theorem es_never {s : Stmt} : ES c X s sNever := ⟨⟨fun pins s σ H D I ⟨F, ρ, fl, ρ', R, e, k⟩ => by cases e⟩⟩
theorem es_pass : ES c X (.Pass pos) sNx := by
  refine ⟨ps_imp ps_pass fun D σ H ⟨F, ρ, fl, ρ', R, e, k⟩ => ?_⟩
  cases e
  exact k σ H F (Same.refl _) R
theorem es_break : ES c X (.Break pos) (fun ρ => some (.bk, ρ)) := by
  refine ⟨ps_imp ps_break fun D σ H ⟨F, ρ, fl, ρ', R, e, k⟩ => ?_⟩
  cases e
  exact k σ H F (Same.refl _) R
theorem es_continue : ES c X (.Continue pos) (fun ρ => some (.ct, ρ)) := by
  refine ⟨ps_imp ps_continue fun D σ H ⟨F, ρ, fl, ρ', R, e, k⟩ => ?_⟩
  cases e
  exact k σ H F (Same.refl _) R

/-! ### loops -/
def loopS (g : SG) (b : SS) : List PyData → Ev → Option (Fl × Ev)
  | [], ρ => some (.nx, ρ)
  | d :: ds, ρ => match g d ρ with
    | none => none
    | some ρ1 => match b ρ1 with
      | none => none
      | some (.nx, ρ2) => loopS g b ds ρ2
      | some (.ct, ρ2) => loopS g b ds ρ2
      | some (.bk, ρ2) => some (.nx, ρ2)
      | some (.rt d, ρ2) => some (.rt d, ρ2)
def sFor (g : SG) (fi : SI) (b : SS) : SS := fun ρ => match fi ρ with
  | some (items, ρ1) => loopS g b items ρ1
  | none => none
theorem es_for {iter : Expr} {body : List Stmt} {g : SG} {fi : SI} {b : SS} {st : Stmt} (h : ∀ {wi : TI} {g' : TG} {tb : TS}, PI X tg iter wi → PG X tg g' → PSs X body tb → PS X st (tFor wi g' tb)) (hi : EI c X tg iter fi) {ks : List Nat} (hg : EG c X tg g ks) (hb : ESs c X body b) : ES c X st (sFor g fi b) := by
  refine ⟨ps_imp (h hi.pi hg.pg hb.pss) fun D σ H ⟨F, ρ, fl, ρ', R, e, k⟩ => ?_⟩
  unfold sFor at e
  cases e1 : fi ρ with
  | none => simp [e1] at e
  | some p =>
    obtain ⟨items, ρ1⟩ := p
    simp only [e1] at e
    refine ⟨F, ρ, items, ρ1, R, e1, fun J H1 F1 s1 R1 wk => ?_⟩
    refine ⟨fun i m σ H => i + m = items.length ∧ ∃ F2 ρ2, Same F1 F2 ∧ Rl c F2 H σ ρ2 ∧ loopS g b (items.drop i) ρ2 = some (fl, ρ'), ⟨items.length, by omega, F1, ρ1, Same.refl _, R1, e⟩, ?_⟩
    rintro i m σ2 H2 ⟨him, F2, ρ2, s2, R2, e2⟩
    cases m with
    | zero =>
      have hi : i = items.length := by omega
      rw [hi, List.drop_length] at e2
      simp only [loopS, Option.some.injEq, Prod.mk.injEq] at e2
      obtain ⟨rfl, rfl⟩ := e2
      rw [hi]
      exact .inl ⟨wk.stop F2 H2 s2 R2.sub, k σ2 H2 F2 (s1.trans s2) R2⟩
    | succ m =>
      have hi : i < items.length := by omega
      rw [List.drop_eq_getElem_cons hi] at e2
      have at_ : items[i]? = some items[i] := List.getElem?_eq_getElem hi
      obtain ⟨go, yl⟩ := wk.go i _ F2 H2 at_ s2 R2.sub
      simp only [loopS] at e2
      cases e3 : g items[i] ρ2 with
      | none => simp [e3] at e2
      | some ρ3 =>
        simp only [e3] at e2
        cases e4 : b ρ3 with
        | none => simp [e4] at e2
        | some q =>
          obtain ⟨f4, ρ4⟩ := q
          simp only [e4] at e2
          refine .inr ⟨go, fun σ' H' => i + 1 + m = items.length ∧ ∃ F2 ρ2, Same F1 F2 ∧ Rl c F2 H' σ' ρ2 ∧ loopS g b (items.drop (i + 1)) ρ2 = some (fl, ρ'), fun σ' H' hN => ⟨m, by omega, hN⟩, fun x H3 hy => ?_⟩
          obtain ⟨F3, xt, dx⟩ := yl x H3 hy
          refine ⟨F3, ρ2, _, ρ3, R2.xt xt, dx, e3, fun σ5 _ R5 => ⟨F3, ρ3, f4, ρ4, R5, e4, fun σ6 H6 F6 s6 R6 => ?_⟩⟩
          have s16 : Same F1 F6 := s2.trans (xt.f.trans s6)
          cases f4 with
          | nx => exact ⟨by omega, F6, ρ4, s16, R6, e2⟩
          | ct => exact ⟨by omega, F6, ρ4, s16, R6, e2⟩
          | bk =>
            simp only [Option.some.injEq, Prod.mk.injEq] at e2
            obtain ⟨rfl, rfl⟩ := e2
            exact k σ6 H6 F6 (s1.trans s16) R6
          | rt d =>
            simp only [Option.some.injEq, Prod.mk.injEq] at e2
            obtain ⟨rfl, rfl⟩ := e2
            exact k σ6 H6 F6 (s1.trans s16) R6
def loopW (t : STe) (b : SS) : Nat → Ev → Option (Fl × Ev)
  | 0, _ => none
  | n + 1, ρ => match t ρ with
    | none => none
    | some (false, ρ1) => some (.nx, ρ1)
    | some (true, ρ1) => match b ρ1 with
      | none => none
      | some (.nx, ρ2) => loopW t b n ρ2
      | some (.ct, ρ2) => loopW t b n ρ2
      | some (.bk, ρ2) => some (.nx, ρ2)
      | some (.rt d, ρ2) => some (.rt d, ρ2)
theorem es_while {n : Nat} {q : Expr} {body : List Stmt} {t : STe} {b : SS} {st : Stmt} (h : ∀ {tc : TT} {tb : TS}, PT X q tc → PSs X body tb → PS X st (tWhile tc tb)) (ht : ET c X q t) (hb : ESs c X body b) : ES c X st (loopW t b n) := by
  refine ⟨ps_imp (h ht.pt hb.pss) fun D σ H ⟨F, ρ, fl, ρ', R, e, k⟩ => ?_⟩
  refine ⟨fun m σ H => ∃ F2 ρ2, Same F F2 ∧ Rl c F2 H σ ρ2 ∧ loopW t b m ρ2 = some (fl, ρ'), ⟨n, F, ρ, Same.refl _, R, e⟩, ?_⟩
  rintro m σ2 H2 ⟨F2, ρ2, s2, R2, e2⟩
  cases m with
  | zero => cases e2
  | succ m =>
    simp only [loopW] at e2
    cases e3 : t ρ2 with
    | none => simp [e3] at e2
    | some p =>
      obtain ⟨bb, ρ3⟩ := p
      refine ⟨F2, ρ2, bb, ρ3, R2, e3, fun H3 F3 s3 R3 => ?_⟩
      cases bb with
      | false =>
        simp only [e3, Option.some.injEq, Prod.mk.injEq] at e2
        obtain ⟨rfl, rfl⟩ := e2
        exact k σ2 H3 F3 (s2.trans s3) R3
      | true =>
        simp only [e3] at e2
        cases e4 : b ρ3 with
        | none => simp [e4] at e2
        | some q =>
          obtain ⟨f4, ρ4⟩ := q
          simp only [e4] at e2
          refine ⟨fun σ' H' => ∃ F5 ρ5, Same F F5 ∧ Rl c F5 H' σ' ρ5 ∧ loopW t b m ρ5 = some (fl, ρ'), fun σ' H' hN => ⟨m, Nat.lt_succ_self m, hN⟩, F3, ρ3, f4, ρ4, R3, e4, fun σ6 H6 F6 s6 R6 => ?_⟩
          have s16 : Same F F6 := s2.trans (s3.trans s6)
          cases f4 with
          | nx => exact ⟨F6, ρ4, s16, R6, e2⟩
          | ct => exact ⟨F6, ρ4, s16, R6, e2⟩
          | bk =>
            simp only [Option.some.injEq, Prod.mk.injEq] at e2
            obtain ⟨rfl, rfl⟩ := e2
            exact k σ6 H6 F6 s16 R6
          | rt d =>
            simp only [Option.some.injEq, Prod.mk.injEq] at e2
            obtain ⟨rfl, rfl⟩ := e2
            exact k σ6 H6 F6 s16 R6
/-! ### what is walked -/
def sSq (f : SE) : SI := fun ρ => match f ρ with
  | some (.d (.list ds), ρ1) => some (ds, ρ1)
  | some (.d (.tuple ds), ρ1) => some (ds, ρ1)
  | _ => none
theorem wk_list {F : Hp} {a : Addr} {vs : List V} {ds : List PyData} (hK : X.K = c.K) (h : SqL c.K F a vs) (hs : DzAll c.K F vs ds) : Wk c (Itl X.K a) F ds := by
  rw [hK]
  refine ⟨fun i d F2 H2 e s1 s2 => ?_, fun F2 H2 s1 s2 => ⟨vs, s2.seq (s1.seq h), by rw [dpAll_len hs]; exact Nat.le_refl _⟩⟩
  obtain ⟨v, ev, dv⟩ := dpAll_at hs e
  refine ⟨⟨vs, v, s2.seq (s1.seq h), ev⟩, fun x H3 ⟨e1, e2⟩ => ?_⟩
  subst e1
  have := e2 vs (s2.seq (s1.seq h))
  rw [ev] at this
  cases this
  exact ⟨F2, Xt.refl s2, dp_same s1 dv⟩
theorem wk_tup {F : Hp} {a : Addr} {vs : List V} {ds : List PyData} (hK : X.K = c.K) (h : SqT c.K F a vs) (hs : DzAll c.K F vs ds) : Wk c (Itt X.K a) F ds := by
  rw [hK]
  refine ⟨fun i d F2 H2 e s1 s2 => ?_, fun F2 H2 s1 s2 => ⟨vs, sqT_same s2 (sqT_same s1 h), by rw [dpAll_len hs]; exact Nat.le_refl _⟩⟩
  obtain ⟨v, ev, dv⟩ := dpAll_at hs e
  refine ⟨⟨vs, v, sqT_same s2 (sqT_same s1 h), ev⟩, fun x H3 ⟨e1, e2⟩ => ?_⟩
  subst e1
  have := e2 vs (sqT_same s2 (sqT_same s1 h))
  rw [ev] at this
  cases this
  exact ⟨F2, Xt.refl s2, dp_same s1 dv⟩
theorem ei_sq {f : SE} (hK : X.K = c.K) (he : EO c X e f) : EI c X tg e (sSq f) := by
  refine ⟨⟨fun pins s σ H R I ⟨F, ρ, items, ρ', RR, e1, k⟩ => ?_⟩⟩
  unfold sSq at e1
  cases e2 : f ρ with
  | none => simp [e2] at e1
  | some p =>
    obtain ⟨x, ρ1⟩ := p
    cases x with
    | s i => simp [e2] at e1
    | d d =>
      cases d with
      | list ds =>
        simp only [e2, Option.some.injEq, Prod.mk.injEq] at e1
        obtain ⟨rfl, rfl⟩ := e1
        refine (pi_list (tg := tg) he.pe).run pins s σ H R I ⟨F, ρ, _, ρ1, RR, e2, fun v H' F' s' R' o => ?_⟩
        cases o with
        | lst h hs => exact ⟨_, rfl, ⟨_, by rw [hK]; exact R'.sub.seq h⟩, k _ H' F' s' R' (wk_list hK h hs)⟩
      | tuple ds =>
        simp only [e2, Option.some.injEq, Prod.mk.injEq] at e1
        obtain ⟨rfl, rfl⟩ := e1
        refine (pi_tup (tg := tg) he.pe).run pins s σ H R I ⟨F, ρ, _, ρ1, RR, e2, fun v H' F' s' R' o => ?_⟩
        cases o with
        | tup h hs => exact ⟨_, rfl, ⟨_, by rw [hK]; exact sqT_same R'.sub h⟩, k _ H' F' s' R' (wk_tup hK h hs)⟩
      | _ => simp [e2] at e1
/-- range(a), range(a, b) -/
def rangeD (a b : Int) : List PyData := (List.range (b - a).toNat).map fun i => .int (a + (i : Nat))
def sRg1 (f : SA) : SI := fun ρ => match f ρ with
  | some ([.d (.int n)], ρ1) => if n.natAbs < 4611686018427387904 then some (rangeD 0 n, ρ1) else none
  | _ => none
def sRg2 (f : SA) : SI := fun ρ => match f ρ with
  | some ([.d (.int a), .d (.int b)], ρ1) => if a.natAbs < 4611686018427387904 ∧ b.natAbs < 4611686018427387904 then some (rangeD a b, ρ1) else none
  | _ => none
theorem wk_range {F : Hp} {a b : Int} : Wk c (Itr a (b - a).toNat) F (rangeD a b) := by
  refine ⟨fun i d F2 H2 e s1 s2 => ?_, fun F2 H2 s1 s2 => ?_⟩
  · unfold rangeD at e
    rw [List.getElem?_map] at e
    obtain ⟨j, e1, e2⟩ := Option.map_eq_some_iff.mp e
    obtain ⟨hj, e3⟩ := List.getElem?_eq_some_iff.mp e1
    rw [List.getElem_range] at e3
    rw [List.length_range] at hj
    subst e3
    refine ⟨hj, fun x H3 ⟨e4, e5⟩ => ?_⟩
    subst e4
    subst e5
    rw [← e2]
    exact ⟨F2, Xt.refl s2, .int _⟩
  · show (b - a).toNat ≤ (rangeD a b).length
    unfold rangeD
    rw [List.length_map, List.length_range]
    exact Nat.le_refl _
end
end PD

/-! Plain data: defs and their calls -/
namespace PD
open PySem PySem.Spec PyProof.Rows L2 GxR

def allD : List Ob → Option (List PyData)
  | [] => some []
  | .d d :: r => (allD r).map (d :: ·)
  | .s _ :: _ => none
theorem allD_ok {c : Co} {F : Hp} {σ : L2.St} : ∀ {vs : List V} {xs : List Ob} {ds : List PyData}, ObsOk c F σ vs xs → allD xs = some ds → DzAll c.K F vs ds
  | [], [], _, _, e => by cases e; exact .nil
  | v :: vs, .d d :: xs, ds, h, e => by
    simp only [allD, Option.map_eq_some_iff] at e
    obtain ⟨r, e1, rfl⟩ := e
    exact .cons h.1 (allD_ok h.2 e1)
  | _ :: _, .s _ :: _, _, _, e => by cases e
  | [], _ :: _, _, h, _ => h.elim
  | _ :: _, [], _, h, _ => h.elim

/-- the promise of a def on data -/
def spP (K : PySem.W.Frag) (T : List Addr) (f : List PyData → Option PyData) : Sp := fun vs H Q _ => ∃ F ds d, DzAll K F vs ds ∧ Same F H ∧ (∀ P ∈ T, F P = none ∧ TabG H P) ∧ TF K F ∧ f ds = some d ∧
  ∀ v H' F', Same F F' → Same F' H' → (∀ P ∈ T, F' P = none ∧ TabG H' P) → (∀ b o, H b = some o → b ∉ T → H' b = some o) → (∀ a, H a ≠ none → F a = none → F' a = none) → TF K F' → Dz K F' v d → Q v H'
/-- .. of a def that changes the list that is its first argument -/
def spI (K : PySem.W.Frag) (T : List Addr) (f : List PyData → List PyData → Option (PyData × List PyData)) : Sp := fun vs H Q _ => ∃ F r ws rs us ds d rs', vs = .ref r :: us ∧ H r = some (.lst ws) ∧ DzAll K F ws rs ∧ DzAll K F us ds ∧ Same F H ∧ F r = none ∧ r ∉ T ∧
  (∀ P ∈ T, F P = none ∧ TabG H P) ∧ TF K F ∧ f rs ds = some (d, rs') ∧
  ∀ v H' F' ws', Same F F' → Same F' H' → (∀ P ∈ T, F' P = none ∧ TabG H' P) → (∀ b o, H b = some o → b ∉ T → b ≠ r → H' b = some o) → H' r = some (.lst ws') → DzAll K F' ws' rs' → F' r = none → (∀ a, H a ≠ none → F a = none → F' a = none) → TF K F' → Dz K F' v d → Q v H'

def startE (n : Nat) (ds : List PyData) : Ev := ds.map Sl.dat ++ List.replicate (n - ds.length) Sl.un
def bodyP (g : SS) (n : Nat) (ds : List PyData) : Option PyData := match g (startE n ds) with
  | some (.rt d, _) => some d
  | some (.nx, _) => some .none
  | _ => none
def startI (n : Nat) (rs ds : List PyData) : Ev := Sl.io rs :: (ds.map Sl.dat ++ List.replicate (n - 1 - ds.length) Sl.un)
def bodyI (g : SS) (n : Nat) (rs ds : List PyData) : Option (PyData × List PyData) := match g (startI n rs ds) with
  | some (.rt d, ρ) => match (ρ[0]? : Option Sl) with
    | some (Sl.io rs') => some (d, rs')
    | _ => none
  | some (.nx, ρ) => match (ρ[0]? : Option Sl) with
    | some (Sl.io rs') => some (.none, rs')
    | _ => none
  | _ => none

section
variable {K : PySem.W.Frag} {T : List Addr} {F H : Hp}
theorem vAt_start {N : List Str} {vs : List V} {i : Nat} (h : i < vs.length) : vAt (L2.start N vs) i = some vs[i] := by
  unfold vAt L2.start
  rw [List.getElem?_append_left (by rw [List.length_map]; exact h), List.getElem?_map, List.getElem?_eq_getElem h]
  rfl
theorem startE_cases {n : Nat} {ds : List PyData} {i : Nat} {sl : Sl} (h : (startE n ds)[i]? = some sl) : (∃ d, ds[i]? = some d ∧ sl = .dat d) ∨ sl = .un := by
  unfold startE at h
  by_cases hi : i < ds.length
  · rw [List.getElem?_append_left (by rw [List.length_map]; exact hi), List.getElem?_map, List.getElem?_eq_getElem hi] at h
    cases h
    exact .inl ⟨_, List.getElem?_eq_getElem hi, rfl⟩
  · rw [List.getElem?_append_right (by rw [List.length_map]; omega)] at h
    obtain ⟨_, e⟩ := List.getElem?_eq_some_iff.mp h
    rw [List.getElem_replicate] at e
    exact .inr e.symm
theorem rl_start {N : List Str} {vs : List V} {ds : List PyData} (hd : DzAll K F vs ds) (hn : ds.length ≤ N.length) (s : Same F H) (t : ∀ P ∈ T, F P = none ∧ TabG H P) (tf : TF K F) :
    Rl ⟨K, T, H, F, [], []⟩ F H (L2.start N vs) (startE N.length ds) := by
  have hl := dpAll_len hd
  refine ⟨?_, s, fun P hP => (t P hP).1, fun P hP => (t P hP).2, Same.refl _, fun b o e _ _ => e, fun a ha => (by cases ha), fun i sl e => ?_, fun i j a x y e1 => ?_, fun i j x y e1 => ?_, fun a _ h => h, tf, fun i j a x y e1 => ?_⟩
  · unfold L2.start startE
    rw [List.length_append, List.length_append, List.length_map, List.length_map, List.length_replicate, List.length_replicate, hl]
  · rcases startE_cases e with ⟨d, e1, rfl⟩ | rfl
    · obtain ⟨v, e2, dv⟩ := dpAll_at hd e1
      obtain ⟨hi, e3⟩ := List.getElem?_eq_some_iff.mp e2
      exact ⟨v, by rw [vAt_start hi, e3], dv⟩
    · trivial
  · rcases startE_cases e1 with ⟨d, _, h⟩ | h <;> cases h
  · rcases startE_cases e1 with ⟨d, _, h⟩ | h <;> cases h
  · rcases startE_cases e1 with ⟨d, _, h⟩ | h <;> cases h

/-- a def on data, by its body -/
theorem fn_pure {P : Program} {w : World} {mg : Str → Option Value} {base : Heap} {x qual : Str} {st : Stmt} {f : Addr} {fd : FuncData} {N ps : List Str} {k : Nat} (Fu : Fun K x qual st f fd) (S : FnScope N ps (defScope st)) (g : SS) (hnp : ps.length ≤ N.length)
    (hb : ∀ (cdv : Value) (A : Around) (outer : List Env) (s : Shared) (H : Hp) (E : XK) (H0 F0 : Hp) (io : List Addr), Room k (A.deeper (envOfC qual (defScope st) s.heap.objs.size f cdv)) →
      ESs ⟨K, T, H0, F0, io, []⟩ (cxOf CX0 P w K mg base N qual (defScope st) f cdv A outer s H E).nox (defBody st) g) :
    FnOk P w K mg base CX0 (k + 1) f fd ps (spP K T (fun ds => if ds.length = ps.length then bodyP g N.length ds else none)) := by
  refine Fu.ok S (fun vs H Q E h => ?_) (fun cdv A outer s H vs Q E hr h => ?_)
  · obtain ⟨F, ds, d, hd, _, _, _, e, _⟩ := h
    dsimp only at e
    split at e
    · rename_i hl
      rw [dpAll_len hd, hl]
    · cases e
  · obtain ⟨F, ds, d, hd, sF, t, tf, e, q⟩ := h
    dsimp only at e
    split at e
    · rename_i hl
      have es := hb cdv A outer s H E H F [] hr
      refine ⟨_, es.pss, ?_⟩
      have R := rl_start (N := N) hd (by rw [hl]; exact hnp) sF t tf
      unfold bodyP at e
      cases e1 : g (startE N.length ds) with
      | none => rw [e1] at e; cases e
      | some p =>
        obtain ⟨fl, ρ'⟩ := p
        rw [e1] at e
        refine ⟨F, _, fl, ρ', R, e1, fun σ' H' F' s' R' => ?_⟩
        have fin : ∀ v, Dz K F' v d → Q v H' := fun v dv => q v H' F' s' R'.sub (fun P hP => ⟨R'.ft P hP, R'.tb P hP⟩) (fun b o e1 e2 => R'.fr b o e1 e2 (by simp)) R'.nw R'.tf dv
        cases fl with
        | rt d' =>
          cases e
          exact fun v dv => fin v dv
        | nx =>
          cases e
          exact fin .non .non
        | bk => cases e
        | ct => cases e
    · cases e
/-- .. that holds a generator expression: its code object at cA -/
theorem fn_pureC {P : Program} {w : World} {mg : Str → Option Value} {base : Heap} {x qual : Str} {st : Stmt} {f : Addr} {N ps : List Str} {k : Nat} {oc : Value} {od an : Option Addr} {osl : Array (Option Value)} {dV kV doc pm cA ct : Value}
    (l : K.lookup f = some ⟨oc, od, .func (PySem.W.fnOf x qual (defArgs st) (defBody st) (defScope st) dV kV doc pm an cA ct), osl⟩) (cd : PySem.W.codeIn K cA qual = true) (S : FnScope N ps (defScope st)) (g : SS) (hnp : ps.length ≤ N.length)
    (hb : ∀ (A : Around) (outer : List Env) (s : Shared) (H : Hp) (E : XK) (H0 F0 : Hp) (io : List Addr), Room k (A.deeper (envOfC qual (defScope st) s.heap.objs.size f cA)) →
      ESs ⟨K, T, H0, F0, io, []⟩ (cxOf CX0 P w K mg base N qual (defScope st) f cA A outer s H E).nox (defBody st) g) :
    FnOk P w K mg base CX0 (k + 1) f (PySem.W.fnOf x qual (defArgs st) (defBody st) (defScope st) dV kV doc pm an cA ct) ps (spP K T (fun ds => if ds.length = ps.length then bodyP g N.length ds else none)) := by
  refine fn_of l cd S (fun vs H Q E h => ?_) fun A outer s H vs Q E hr h => ?_
  · obtain ⟨F, ds, d, hd, _, _, _, e, _⟩ := h
    dsimp only at e
    split at e
    · rename_i hl
      rw [dpAll_len hd, hl]
    · cases e
  · obtain ⟨F, ds, d, hd, sF, t, tf, e, q⟩ := h
    dsimp only at e
    split at e
    · rename_i hl
      have es := hb A outer s H E H F [] hr
      refine ⟨_, es.pss.nox, ?_⟩
      have R := rl_start (N := N) hd (by rw [hl]; exact hnp) sF t tf
      unfold bodyP at e
      cases e1 : g (startE N.length ds) with
      | none => rw [e1] at e; cases e
      | some p =>
        obtain ⟨fl, ρ'⟩ := p
        rw [e1] at e
        refine ⟨F, _, fl, ρ', R, e1, fun σ' H' F' s' R' => ?_⟩
        have fin : ∀ v, Dz K F' v d → Q v H' := fun v dv => q v H' F' s' R'.sub (fun P hP => ⟨R'.ft P hP, R'.tb P hP⟩) (fun b o e1 e2 => R'.fr b o e1 e2 (by simp)) R'.nw R'.tf dv
        cases fl with
        | rt d' =>
          cases e
          exact fun v dv => fin v dv
        | nx =>
          cases e
          exact fin .non .non
        | bk => cases e
        | ct => cases e
    · cases e
theorem startI_cases {n : Nat} {rs ds : List PyData} {i : Nat} {sl : Sl} (h : (startI n rs ds)[i]? = some sl) : (i = 0 ∧ sl = .io rs) ∨ (∃ j d, i = j + 1 ∧ ds[j]? = some d ∧ sl = .dat d) ∨ sl = .un := by
  unfold startI at h
  cases i with
  | zero =>
    cases h
    exact .inl ⟨rfl, rfl⟩
  | succ j =>
    rw [List.getElem?_cons_succ] at h
    refine .inr ?_
    by_cases hi : j < ds.length
    · rw [List.getElem?_append_left (by rw [List.length_map]; exact hi), List.getElem?_map, List.getElem?_eq_getElem hi] at h
      cases h
      exact .inl ⟨j, _, rfl, List.getElem?_eq_getElem hi, rfl⟩
    · rw [List.getElem?_append_right (by rw [List.length_map]; omega)] at h
      obtain ⟨_, e⟩ := List.getElem?_eq_some_iff.mp h
      rw [List.getElem_replicate] at e
      exact .inr e.symm
theorem rl_startI {N : List Str} {r : Addr} {ws us : List V} {rs ds : List PyData} (hr : H r = some (.lst ws)) (hw : DzAll K F ws rs) (hd : DzAll K F us ds) (hn : ds.length + 1 ≤ N.length) (s : Same F H) (fr : F r = none) (nr : r ∉ T) (t : ∀ P ∈ T, F P = none ∧ TabG H P) (tf : TF K F) :
    Rl ⟨K, T, H, F, [r], []⟩ F H (L2.start N (.ref r :: us)) (startI N.length rs ds) := by
  have hl := dpAll_len hd
  refine ⟨?_, s, fun P hP => (t P hP).1, fun P hP => (t P hP).2, Same.refl _, fun b o e _ _ => e, fun a ha => ?_, fun i sl e => ?_, fun i j a x y e1 => ?_, fun i j x y e1 e2 => ?_, fun a _ h => h, tf, fun i j a x y e1 => ?_⟩
  · unfold L2.start startI
    simp only [List.length_append, List.length_map, List.length_replicate, List.length_cons]
    omega
  · have e : a = r := by simpa using ha
    subst e
    exact ⟨(by show H a ≠ none; rw [hr]; exact fun z => (by cases z)), nr, fr, ws, hr⟩
  · rcases startI_cases e with ⟨rfl, rfl⟩ | ⟨j, d, rfl, e1, rfl⟩ | rfl
    · exact ⟨r, ws, rfl, by rw [vAt_start (by simp)]; rfl, hr, hw, fr, nr⟩
    · obtain ⟨v, e2, dv⟩ := dpAll_at hd e1
      obtain ⟨hi, e3⟩ := List.getElem?_eq_some_iff.mp e2
      refine ⟨v, ?_, dv⟩
      rw [vAt_start (by simp; exact hi)]
      simp [e3]
    · trivial
  · rcases startI_cases e1 with ⟨_, h⟩ | ⟨_, d, _, _, h⟩ | h <;> cases h
  · rcases startI_cases e1 with ⟨h1, _⟩ | ⟨_, d, _, _, h⟩ | h
    · rcases startI_cases e2 with ⟨h2, _⟩ | ⟨_, d, _, _, h⟩ | h
      · rw [h1, h2]
      · cases h
      · cases h
    · cases h
    · cases h
  · rcases startI_cases e1 with ⟨_, h⟩ | ⟨_, d, _, _, h⟩ | h <;> cases h
theorem fn_io {P : Program} {w : World} {mg : Str → Option Value} {base : Heap} {x qual : Str} {st : Stmt} {f : Addr} {fd : FuncData} {N ps : List Str} {k : Nat} (Fu : Fun K x qual st f fd) (S : FnScope N ps (defScope st)) (g : SS) (hnp : ps.length ≤ N.length)
    (hb : ∀ (cdv : Value) (A : Around) (outer : List Env) (s : Shared) (H : Hp) (E : XK) (H0 F0 : Hp) (io : List Addr), Room k (A.deeper (envOfC qual (defScope st) s.heap.objs.size f cdv)) →
      ESs ⟨K, T, H0, F0, io, []⟩ (cxOf CX0 P w K mg base N qual (defScope st) f cdv A outer s H E).nox (defBody st) g) :
    FnOk P w K mg base CX0 (k + 1) f fd ps (spI K T (fun rs ds => if ds.length + 1 = ps.length then bodyI g N.length rs ds else none)) := by
  refine Fu.ok S (fun vs H Q E h => ?_) (fun cdv A outer s H vs Q E hr h => ?_)
  · obtain ⟨F, r, ws, rs, us, ds, d, rs', rfl, _, _, hd, _, _, _, _, _, e, _⟩ := h
    dsimp only at e
    split at e
    · rename_i hl
      rw [List.length_cons, dpAll_len hd, hl]
    · cases e
  · obtain ⟨F, r, ws, rs, us, ds, d, rs', rfl, hH, hw, hd, sF, fF, nT, t, tf, e, q⟩ := h
    dsimp only at e
    split at e
    · rename_i hl
      have es := hb cdv A outer s H E H F [r] hr
      refine ⟨_, es.pss, ?_⟩
      have R := rl_startI (N := N) hH hw hd (by rw [hl]; exact hnp) sF fF nT t tf
      unfold bodyI at e
      cases e1 : g (startI N.length rs ds) with
      | none => rw [e1] at e; cases e
      | some p =>
        obtain ⟨fl, ρ'⟩ := p
        rw [e1] at e
        refine ⟨F, _, fl, ρ', R, e1, fun σ' H' F' s' R' => ?_⟩
        have fin : ∀ v, ρ'[0]? = some (Sl.io rs') → Dz K F' v d → Q v H' := fun v e0 dv => by
          obtain ⟨a, vs, ea, e3, e4, e5, e6, e7⟩ := R'.sl 0 _ e0
          have ea : [r] = [a] := ea
          cases ea
          exact q v H' F' vs s' R'.sub (fun P hP => ⟨R'.ft P hP, R'.tb P hP⟩) (fun b o x1 x2 x3 => R'.fr b o x1 x2 (by simpa using x3)) e4 e5 e6 R'.nw R'.tf dv
        cases fl with
        | rt d' =>
          dsimp only at e
          cases e0 : ρ'[0]? with
          | none => rw [e0] at e; cases e
          | some sl =>
            rw [e0] at e
            cases sl with
            | io rs2 =>
              cases e
              exact fun v dv => fin v e0 dv
            | _ => cases e
        | nx =>
          dsimp only at e
          cases e0 : ρ'[0]? with
          | none => rw [e0] at e; cases e
          | some sl =>
            rw [e0] at e
            cases sl with
            | io rs2 =>
              cases e
              exact fin .non e0 .non
            | _ => cases e
        | bk => cases e
        | ct => cases e
    · cases e
end

section
variable {c : Co} {X : Cx} {e : Expr} {es : List Expr} {pos : Pos}
def sCall (f : List PyData → Option PyData) (dds : List PyData) (fa : SA) : SE := fun ρ => match fa ρ with
  | none => none
  | some (xs, ρ1) => match allD xs with
    | none => none
    | some ds => (f (ds ++ dds)).map fun d => (.d d, ρ1)
theorem eo_call {f : List PyData → Option PyData} {dds : List PyData} {dvs : List V} {fa : SA} {ce : Expr} {E : XK} (h : ∀ {t : TA}, PA X es t → PE X ce (tCall (spP c.K c.T f) dvs E t)) (ha : EA c X es fa) (hd : ∀ F, DzAll c.K F dvs dds) : EO c X ce (sCall f dds fa) := by
  refine ⟨pe_imp (h ha.pa) fun σ H Q ⟨F, ρ, x, ρ', R, e, k⟩ => ?_⟩
  unfold sCall at e
  cases e1 : fa ρ with
  | none => rw [e1] at e; cases e
  | some p =>
    obtain ⟨xs, ρ1⟩ := p
    rw [e1] at e
    dsimp only at e
    cases e2 : allD xs with
    | none => rw [e2] at e; cases e
    | some ds =>
      rw [e2] at e
      dsimp only at e
      cases e3 : f (ds ++ dds) with
      | none => rw [e3] at e; cases e
      | some d =>
        rw [e3] at e
        cases e
        refine ⟨F, ρ, xs, _, R, e1, fun vs H1 F1 s1 R1 o1 => ?_⟩
        exact ⟨F1, ds ++ dds, d, dpAll_app (allD_ok o1 e2) (hd F1), R1.sub, fun P hP => ⟨R1.ft P hP, R1.tb P hP⟩, R1.tf, e3, fun v H' F' f1 s2 t h1 n tf dv => k v H' F' (s1.trans f1) (R1.call f1 s2 t h1 n tf) dv⟩
def cont? (ρ : Ev) (i : Nat) : Option (List PyData) := match ρ[i]? with
  | some (.own ds) => some ds
  | some (.io ds) => some ds
  | _ => none
def setCont (ρ : Ev) (i : Nat) (ds : List PyData) : Ev := match ρ[i]? with
  | some (.own _) => ρ.set i (.own ds)
  | some (.io _) => ρ.set i (.io ds)
  | _ => ρ
/-- the list of a slot is changed; the rest as at a call -/
theorem Rl.callI {F F' H H' : Hp} {σ : L2.St} {ρ : Ev} {i : Nat} {r : Addr} {ws : List V} {rs rs' : List PyData} (R : Rl c F H σ ρ) (hc : cont? ρ i = some rs) (hv : vAt σ i = some (.ref r)) (f : Same F F') (s : Same F' H') (t : ∀ P ∈ c.T, F' P = none ∧ TabG H' P)
    (h : ∀ b o, H b = some o → b ∉ c.T → b ≠ r → H' b = some o) (h' : H' r = some (.lst ws)) (hw : DzAll c.K F' ws rs') (hF : F' r = none) (n : ∀ a, H a ≠ none → F a = none → F' a = none) (tf : TF c.K F') : Rl c F' H' σ (setCont ρ i rs') := by
  have hi : i < ρ.length := by
    unfold cont? at hc
    cases e : ρ[i]? with
    | none => rw [e] at hc; cases hc
    | some sl => exact (List.getElem?_eq_some_iff.mp e).1
  -- who r is
  have who : (∃ ds, ρ[i]? = some (Sl.own ds) ∧ c.H0 r = none ∧ r ∉ c.T ∧ setCont ρ i rs' = ρ.set i (.own rs')) ∨ (∃ ds, ρ[i]? = some (Sl.io ds) ∧ c.io = [r] ∧ r ∉ c.T ∧ setCont ρ i rs' = ρ.set i (.io rs')) := by
    unfold cont? at hc
    unfold setCont
    cases e : ρ[i]? with
    | none => rw [e] at hc; cases hc
    | some sl =>
      have ok := R.sl i sl e
      cases sl with
      | un => rw [e] at hc; cases hc
      | fn n => rw [e] at hc; cases hc
      | dat d => rw [e] at hc; cases hc
      | dic kvs => rw [e] at hc; cases hc
      | own ds =>
        obtain ⟨a, vs, e1, e2, e3, e4, e5, e6⟩ := ok
        rw [hv] at e1
        cases e1
        exact .inl ⟨ds, rfl, e6, e5, rfl⟩
      | io ds =>
        obtain ⟨a, vs, e0, e1, e2, e3, e4, e5⟩ := ok
        rw [hv] at e1
        cases e1
        exact .inr ⟨ds, rfl, e0, e5, rfl⟩
  have nioOf : ∀ b, c.H0 b ≠ none → b ∉ c.io → b ≠ r := fun b h0 hb z => by
    rcases who with ⟨ds, _, e, _⟩ | ⟨ds, _, e, _⟩
    · exact h0 (by rw [z]; exact e)
    · exact hb (by rw [e, z]; simp)
  have other : ∀ j sl, i ≠ j → ρ[j]? = some sl → SlOk c F' H' (vAt σ j) sl := fun j sl hj e => by
    have ok := R.sl j sl e
    cases sl with
    | un => trivial
    | fn n => exact ok
    | dat d =>
      obtain ⟨w, e1, e2⟩ := ok
      exact ⟨w, e1, dp_same f e2⟩
    | own ds =>
      obtain ⟨a, vs, e1, e2, e3, e4, e5, e6⟩ := ok
      have na : a ≠ r := fun z => by
        subst z
        rcases who with ⟨es, q, _⟩ | ⟨es, q, q2, _⟩
        · exact hj (R.dj i j a es ds q e hv e1)
        · exact (R.ioh a (by rw [q2]; simp)).1 e6
      exact ⟨a, vs, e1, h _ _ e2 e5 na, dpAll_same f e3, n a (by rw [e2]; exact fun z => by cases z) e4, e5, e6⟩
    | io ds =>
      obtain ⟨a, vs, e0, e1, e2, e3, e4, e5⟩ := ok
      have na : a ≠ r := fun z => by
        subst z
        rcases who with ⟨es, q, q2, _⟩ | ⟨es, q, q2, _⟩
        · exact (R.ioh a (by rw [e0]; simp)).1 q2
        · exact hj (R.iu i j es ds q e)
      exact ⟨a, vs, e0, e1, h _ _ e2 e5 na, dpAll_same f e3, n a (by rw [e2]; exact fun z => by cases z) e4, e5⟩
    | dic kvs =>
      obtain ⟨a, vs, e1, e2, e3, e4, e5, e6⟩ := ok
      have na : a ≠ r := fun z => by
        subst z
        have hr : ∃ ws', H a = some (.lst ws') := by
          rcases who with ⟨es, q, _⟩ | ⟨es, q, q2, _⟩
          · obtain ⟨b, ws', x1, x2, _⟩ := R.sl i _ q
            rw [hv] at x1
            cases x1
            exact ⟨_, x2⟩
          · obtain ⟨_, _, _, ws', x⟩ := R.ioh a (by rw [q2]; simp)
            exact ⟨_, x⟩
        obtain ⟨ws', x⟩ := hr
        rw [e2] at x
        cases x
      exact ⟨a, vs, e1, h _ _ e2 e5 na, dpKv_same f e3, n a (by rw [e2]; exact fun z => by cases z) e4, e5, e6⟩
  have slots : ∀ j sl, (setCont ρ i rs')[j]? = some sl → SlOk c F' H' (vAt σ j) sl := fun j sl e => by
    by_cases hj : i = j
    · subst hj
      rcases who with ⟨ds, q, q1, q2, q3⟩ | ⟨ds, q, q1, q2, q3⟩
      · rw [q3, List.getElem?_set_self hi] at e
        cases e
        exact ⟨r, ws, hv, h', hw, hF, q2, q1⟩
      · rw [q3, List.getElem?_set_self hi] at e
        cases e
        exact ⟨r, ws, q1, hv, h', hw, hF, q2⟩
    · refine other j sl hj ?_
      rcases who with ⟨ds, q, q1, q2, q3⟩ | ⟨ds, q, q1, q2, q3⟩
      · rw [q3, List.getElem?_set_ne hj] at e
        exact e
      · rw [q3, List.getElem?_set_ne hj] at e
        exact e
  have kinds : ∀ j : Nat, (∀ ds, (setCont ρ i rs')[j]? = some (Sl.own ds) → ∃ es, ρ[j]? = some (Sl.own es)) ∧ (∀ ds, (setCont ρ i rs')[j]? = some (Sl.io ds) → ∃ es, ρ[j]? = some (Sl.io es)) ∧ (∀ ds, (setCont ρ i rs')[j]? = some (Sl.dic ds) → ρ[j]? = some (Sl.dic ds)) := fun j => by
    have step : ∀ sl : Sl, (setCont ρ i rs')[j]? = some sl → ρ[j]? = some sl ∨ (∃ ds, ρ[j]? = some (Sl.own ds) ∧ sl = Sl.own rs') ∨ (∃ ds, ρ[j]? = some (Sl.io ds) ∧ sl = Sl.io rs') := fun sl e => by
      rcases who with ⟨ds, q, q1, q2, q3⟩ | ⟨ds, q, q1, q2, q3⟩
      · rw [q3] at e
        by_cases hj : i = j
        · subst hj
          rw [List.getElem?_set_self hi] at e
          cases e
          exact .inr (.inl ⟨ds, q, rfl⟩)
        · rw [List.getElem?_set_ne hj] at e
          exact .inl e
      · rw [q3] at e
        by_cases hj : i = j
        · subst hj
          rw [List.getElem?_set_self hi] at e
          cases e
          exact .inr (.inr ⟨ds, q, rfl⟩)
        · rw [List.getElem?_set_ne hj] at e
          exact .inl e
    refine ⟨fun es e => ?_, fun es e => ?_, fun es e => ?_⟩
    · rcases step _ e with h | ⟨ds, h, _⟩ | ⟨ds, h, h2⟩
      · exact ⟨_, h⟩
      · exact ⟨_, h⟩
      · cases h2
    · rcases step _ e with h | ⟨ds, h, h2⟩ | ⟨ds, h, _⟩
      · exact ⟨_, h⟩
      · cases h2
      · exact ⟨_, h⟩
    · rcases step _ e with h | ⟨ds, h, h2⟩ | ⟨ds, h, h2⟩
      · exact h
      · cases h2
      · cases h2
  have len : (setCont ρ i rs').length = ρ.length := by
    rcases who with ⟨ds, q, q1, q2, q3⟩ | ⟨ds, q, q1, q2, q3⟩ <;> rw [q3, List.length_set]
  refine ⟨by rw [len]; exact R.len, s, fun P hP => (t P hP).1, fun P hP => (t P hP).2, R.mono.trans f, fun b o e h1 h2 => h _ _ (R.fr b o e h1 h2) h1 (nioOf b (by rw [e]; exact fun z => by cases z) h2), fun a ha => ?_, slots, fun j k a ds es e1 e2 e3 e4 => ?_, fun j k ds es e1 e2 => ?_, fun a h1 h2 => ?_, tf, fun j k a ds es e1 e2 e3 e4 => R.dk j k a ds es ((kinds j).2.2 ds e1) ((kinds k).2.2 es e2) e3 e4⟩
  · obtain ⟨h1, h2, h3, vs, h4⟩ := R.ioh a ha
    by_cases ha' : a = r
    · subst ha'
      exact ⟨h1, h2, hF, ws, h'⟩
    · exact ⟨h1, h2, n a (by rw [h4]; exact fun z => by cases z) h3, vs, h _ _ h4 h2 ha'⟩
  · obtain ⟨ds', q1⟩ := (kinds j).1 ds e1
    obtain ⟨es', q2⟩ := (kinds k).1 es e2
    exact R.dj j k a ds' es' q1 q2 e3 e4
  · obtain ⟨ds', q1⟩ := (kinds j).2.1 ds e1
    obtain ⟨es', q2⟩ := (kinds k).2.1 es e2
    exact R.iu j k ds' es' q1 q2
  · have old := R.nw a h1 h2
    by_cases hT : a ∈ c.T
    · exact (t a hT).1
    · by_cases hio : a ∈ c.io
      · obtain ⟨_, _, _, vs, h4⟩ := R.ioh a hio
        exact n a (by rw [h4]; exact fun z => by cases z) old
      · cases e : c.H0 a with
        | none => exact absurd e h1
        | some o => exact n a (by rw [R.fr a o e hT hio]; exact fun z => by cases z) old
def sCallI (f : List PyData → List PyData → Option (PyData × List PyData)) (fa : SA) : SE := fun ρ => match fa ρ with
  | some (.s i :: xs, ρ1) => match cont? ρ1 i, allD xs with
    | some rs, some ds => (f rs ds).map fun p => (.d p.1, setCont ρ1 i p.2)
    | _, _ => none
  | _ => none
theorem eo_callI {f : List PyData → List PyData → Option (PyData × List PyData)} {fa : SA} {ce : Expr} {E : XK} (h : ∀ {t : TA}, PA X es t → PE X ce (tCall (spI c.K c.T f) [] E t)) (ha : EA c X es fa) : EO c X ce (sCallI f fa) := by
  refine ⟨pe_imp (h ha.pa) fun σ H Q ⟨F, ρ, x, ρ', R, e, k⟩ => ?_⟩
  unfold sCallI at e
  cases e1 : fa ρ with
  | none => rw [e1] at e; cases e
  | some p =>
    obtain ⟨xs, ρ1⟩ := p
    rw [e1] at e
    cases xs with
    | nil => cases e
    | cons x0 xs =>
      cases x0 with
      | d d => cases e
      | s i =>
        dsimp only at e
        cases e2 : cont? ρ1 i with
        | none => rw [e2] at e; cases e
        | some rs =>
          cases e3 : allD xs with
          | none => rw [e2, e3] at e; cases e
          | some ds =>
            rw [e2, e3] at e
            dsimp only at e
            cases e4 : f rs ds with
            | none => rw [e4] at e; cases e
            | some p =>
              obtain ⟨d, rs'⟩ := p
              rw [e4] at e
              cases e
              refine ⟨F, ρ, _, ρ1, R, e1, fun vs H1 F1 s1 R1 o1 => ?_⟩
              cases vs with
              | nil => exact o1.elim
              | cons v vs =>
                obtain ⟨hv, ho⟩ := o1
                have hv : vAt σ i = some v := hv
                -- where the list stands
                have st : ∃ r ws, v = .ref r ∧ H1 r = some (.lst ws) ∧ DzAll c.K F1 ws rs ∧ F1 r = none ∧ r ∉ c.T := by
                  unfold cont? at e2
                  cases q : ρ1[i]? with
                  | none => rw [q] at e2; cases e2
                  | some sl =>
                    rw [q] at e2
                    have ok := R1.sl i sl q
                    cases sl with
                    | un => cases e2
                    | fn n => cases e2
                    | dat d => cases e2
                    | dic kvs => cases e2
                    | own es' =>
                      cases e2
                      obtain ⟨a, ws, z1, z2, z3, z4, z5, _⟩ := ok
                      rw [hv] at z1
                      cases z1
                      exact ⟨a, ws, rfl, z2, z3, z4, z5⟩
                    | io es' =>
                      cases e2
                      obtain ⟨a, ws, z0, z1, z2, z3, z4, z5⟩ := ok
                      rw [hv] at z1
                      cases z1
                      exact ⟨a, ws, rfl, z2, z3, z4, z5⟩
                obtain ⟨r, ws, rfl, z2, z3, z4, z5⟩ := st
                show spI c.K c.T f ((V.ref r :: vs) ++ []) H1 Q E
                rw [List.append_nil]
                exact ⟨F1, r, ws, rs, vs, ds, d, rs', rfl, z2, z3, allD_ok ho e3, R1.sub, z4, z5, fun P hP => ⟨R1.ft P hP, R1.tb P hP⟩, R1.tf, e4,
                  fun u H' F' ws' f1 s2 t h1 h2 h3 h4 n tf du => k u H' F' (s1.trans f1) (R1.callI e2 hv f1 s2 t h1 h2 h3 h4 n tf) du⟩
theorem es_ret {f : SE} (he : EO c X e f) : ES c X (.Return (some e) pos) (sRet f) := by
  refine ⟨ps_imp (ps_ret he.pe) fun D σ H ⟨F, ρ, fl, ρ', R, e, k⟩ => ?_⟩
  unfold sRet at e
  cases e1 : f ρ with
  | none => rw [e1] at e; cases e
  | some p =>
    obtain ⟨x, ρ1⟩ := p
    rw [e1] at e
    cases x with
    | s i => cases e
    | d d =>
      cases e
      exact ⟨F, ρ, _, _, R, e1, fun v H' F' s' R' o => k σ H' F' s' R' v o⟩
theorem es_retN : ES c X (.Return none pos) (fun ρ => some (.rt .none, ρ)) := by
  refine ⟨ps_imp ps_retN fun D σ H ⟨F, ρ, fl, ρ', R, e, k⟩ => ?_⟩
  cases e
  exact k σ H F (Same.refl _) R .non .non
end
end PD

/-! New tuples that are known to bear no dict -/
namespace PD
open PySem PySem.Spec PyProof.Rows L2 GxR
/-- the new tuple is held with its object -/
def NewT (Q : VK) (H : Hp) (vs : List V) : Prop := ∀ p ob, H p = none → PlT ob → Q (.ref p) (upd H p (.frz ob (.tup vs)))
section
variable {X : Cx} {pins : List (Addr × Obj)} {σ : L2.St} {H : Hp} {Q : VK}
theorem new_t {h' : Heap} {t' : Nat} {s s0 : Shared} {vs : List V} {us : List Value} {n : Nat} (I : Inv X pins σ H s) (hk : ∀ b o, s.heap.get? b = some o → h'.get? b = some o) (ha : s.heap.objs.size ≤ s0.heap.objs.size)
    (e : h'.get? s0.heap.objs.size = some { cls := .type "tuple", data := .seq us.toArray n }) (r : Vals vs us) (hz : vs.length ≤ sizeLine) (q : NewT Q H vs) :
    EP X pins σ Q (.ref s0.heap.objs.size) { s with heap := h', toks := t' } := by
  refine ⟨.ref s0.heap.objs.size, _, I.laid (t' := t') (o := .frz { cls := .type "tuple", data := .seq us.toArray n } (.tup vs)) hk ha ?_, rfl, q _ _ (I.hok.fresh ha) ⟨rfl, rfl⟩⟩
  exact ⟨e, hz, us, r, ⟨_, e, rfl, _, rfl⟩⟩
end
section
variable {X : Cx}
def tTupF (t : TA) : TE := fun σ H Q => t σ H fun vs H1 => vs.length ≤ sizeLine ∧ NewT Q H1 vs
theorem pe_tupF {es : List Expr} {t : TA} {x1 : Nat} {pos : Pos} (h : PA X es t) : PE X (.Tuple es x1 pos) (tTupF t) := by
  refine ⟨fun pins s σ H Q I hq => ?_⟩
  refine wpAny_Tuple_spliced (thn (h.run pos pins s σ H _ I hq) fun us s1 ⟨vs, H1, I1, r, z, q⟩ => ⟨by rw [← r.length]; exact z, ?_⟩)
  exact new_t (s0 := s1) (t' := s1.toks) I1 (fun b u e => Heap.get?_push_of_some _ e) (Nat.le_refl _) (Heap.get?_push_size _ rfl) r z q
/-- tuple(x) -/
def rTupF (K : PySem.W.Frag) (vs : List V) (H : Hp) (Q : VK) : Prop := ∃ p ys, vs = [.ref p] ∧ ((SqL K H p ys ∧ NewT Q H ys) ∨ (SqT K H p ys ∧ Q (.ref p) H))
theorem call_tupF : CallR X (.type "tuple") (rTupF X.K) := by
  intro pins s σ H vs us Q I r h
  obtain ⟨p, ys, rfl, h⟩ := h
  obtain ⟨u, rfl, ru⟩ := vals1 r
  cases ru
  rcases h with ⟨hs, q⟩ | ⟨hs, q⟩
  · obtain ⟨items, rv, pl, z⟩ := I.list hs
    have hl := rv.length
    refine call_tuple_list pl.isList (fun h' kp => ?_) (by simp only [List.size_toArray] <;> omega)
    have I1 : Inv X pins σ H { s with heap := h' } := I.kept (t' := s.toks) kp
    exact new_t (s := { s with heap := h' }) (s0 := { s with heap := h' }) (t' := s.toks) I1 (fun b u e => Heap.get?_push_of_some _ e) (Nat.le_refl _) (Heap.get?_push_size _ rfl) rv z q
  · obtain ⟨items, _, pt, _⟩ := I.tuple hs
    exact call_tuple_same pt ⟨.ref p, H, I, rfl, q⟩
theorem call_divF : CallR X (.builtin "divmod") (fun vs H Q => ∃ i j, vs = [.int i, .int j] ∧ CDiv i j ∧ NewT Q H [.int (i / j), .int (i % j)]) := by
  intro pins s σ H vs us Q I r h
  obtain ⟨i, j, rfl, ⟨h1, h2⟩, q⟩ := h
  obtain ⟨u, w', rfl, ⟨t1, rfl⟩, ⟨t2, rfl⟩⟩ := vals2 r
  refine divmod_int (by omega) ?_ (.inl (PyProof.noPylong_small (by omega)))
  rw [Int.fdiv_eq_ediv_of_nonneg i (by omega), Int.fmod_eq_emod_of_nonneg i (by omega)]
  exact new_t (s0 := s) (vs := [.int (i / j), .int (i % j)]) (us := [.int (i / j) s.toks, .int (i % j) (s.toks + 1)]) I (fun b o e => Heap.get?_push_of_some _ e) (Nat.le_refl _) (Heap.get?_push_size _ rfl) (.cons ⟨_, rfl⟩ (.cons ⟨_, rfl⟩ .nil)) (by simp only [List.length_cons, List.length_nil]; rw [sizeLine_eq]; decide) q
/-- t + u -/
def rCatF (K : PySem.W.Frag) : R2 := fun x y H Q => ∃ a b vs ws, x = .ref a ∧ y = .ref b ∧ SqT K H a vs ∧ SqT K H b ws ∧ vs.length + ws.length ≤ sizeLine ∧
  (vs = [] → Q (.ref b) H) ∧ (vs ≠ [] → ws = [] → Q (.ref a) H) ∧ (vs ≠ [] → ws ≠ [] → NewT Q H (vs ++ ws))
theorem op_catF : OpR X (binaryOp .Add) (rCatF X.K) := by
  intro pins s σ H x y v u Q I rx ry h
  obtain ⟨a, b, vs, ws, rfl, rfl, ha, hb, z, q0, q1, q2⟩ := h
  cases rx
  cases ry
  obtain ⟨us1, r1, p1, _⟩ := I.tuple ha
  obtain ⟨us2, r2, p2, _⟩ := I.tuple hb
  by_cases hv : vs = []
  · subst hv
    cases r1
    exact cat_tup0 p1 p2 ⟨.ref b, H, I, rfl, q0 rfl⟩
  · refine HT.cat_tup p1 p2 (fun e => hv (r1.nil_iff.mp e)) (fun e => ⟨.ref a, H, I, rfl, q1 hv (r2.nil_iff.mp e)⟩) (fun e => ?_) (by rw [← r1.length, ← r2.length]; exact z)
    exact new_t (s0 := s) (t' := s.toks) I (fun b o e => Heap.get?_push_of_some _ e) (Nat.le_refl _) (Heap.get?_push_size _ rfl) (r1.append r2) (by rw [List.length_append]; exact z) (q2 hv fun e2 => e (r2.nil_iff.mpr e2))
/-- t[lo:hi] -/
def rSlF (K : PySem.W.Frag) : V → Option Int → Option Int → Hp → VK → Prop := fun x lo hi H Q => ∃ a vs, x = .ref a ∧ SqT K H a vs ∧
  (HT.sIx vs.length 0 lo = 0 ∧ HT.sIx vs.length vs.length hi = vs.length → Q (.ref a) H) ∧ (¬ (HT.sIx vs.length 0 lo = 0 ∧ HT.sIx vs.length vs.length hi = vs.length) → NewT Q H (cutV vs lo hi))
theorem sl_tupF : SlR X (rSlF X.K) := by
  intro pins s σ H x v vl vu lo hi sl Q I rx hs pl pu h
  obtain ⟨a, vs, rfl, hx, q1, q2⟩ := h
  by_cases hw : HT.sIx vs.length 0 lo = 0 ∧ HT.sIx vs.length vs.length hi = vs.length
  · exact sl_tupA pins s σ H _ v vl vu lo hi sl Q I rx hs pl pu ⟨a, vs, rfl, hx, q1, fun z => absurd hw z⟩
  · cases rx
    obtain ⟨us, r, ht, z⟩ := I.tuple hx
    have hl : us.toArray.size = vs.length := by rw [List.size_toArray]; exact r.length.symm
    refine ⟨"tuple", _, PyProof.Rows.slot_tuple_getitem.lookup, ht.typeIs, ?_⟩
    refine HT.getItem_tuple_cut ht hs pl pu (by rw [hl]; exact hw) ?_ (by rw [hl]; exact z)
    rw [hl]
    exact new_t (s0 := s) (t' := s.toks) I (fun b o e => Heap.get?_push_of_some _ e) (Nat.le_refl _) (Heap.get?_push_size _ rfl) ((r.drop _).take _) (Nat.le_trans (cutV_length vs lo hi) z) (q2 hw)
def tTupRgF (te : L2.St → Hp → (Int → Int → Hp → Prop) → Prop) : TE := fun σ H Q => te σ H fun a b H1 => RgOk a b ∧ NewT Q H1 (rgV a b)
theorem pe_tupRgF {e : Expr} {te : L2.St → Hp → (Int → Int → Hp → Prop) → Prop} {p pos : Pos} (hc : X.calm = true) (hg : Gl X "tuple") (hm : X.mg "tuple" = none) (he : PRg X e te) (na : starEach [e] X.env = (false, eval e X.env) :: starEach [] X.env := by rfl) : PE X (.Call (.Name "tuple" p) [e] [] pos) (tTupRgF te) := by
  refine ⟨fun pins s σ H Q I h => ?_⟩
  refine Call_ (ld_blt I hg hm boot_tuple (PyProof.Rows.callWith_type1 (args_cons (thn (he pins s σ H _ I h) fun x s1 ⟨r, a, b, t, u, v, H1, ex, hr, I1, ok, q⟩ => args_nil ?_) na) na))
  subst ex
  obtain ⟨b1, b2, b3, b4, b5⟩ := ok
  refine call_tuple_range (n := (b - a).toNat) (I1.ok.hd hc) hr (small_one b1 b2 b3 b4) (rangeSize_nat a b) b5 fun h' tk acc hk hi => ?_
  have I2 : Inv X pins σ H1 { s1 with heap := h', toks := tk } := I1.kept hk
  refine new_t (s := { s1 with heap := h', toks := tk }) (s0 := { s1 with heap := h', toks := tk }) (t' := tk) (us := acc.toList) (n := 0) I2 (fun b o e => Heap.get?_push_of_some _ e) (Nat.le_refl _) ?_ (vals_rg hi) (by rw [rgV_length, sizeLine_eq]; omega) q
  rw [Array.toArray_toList]
  exact Heap.get?_push_size _ rfl
end
end PD

/-! Plain data: new lists, comprehensions, all(..) -/
namespace PD
open PySem PySem.Spec PyProof.Rows L2 GxR

/-! ### the slots of a block -/
def wipeE (ρ : Ev) : List Nat → Ev
  | [] => ρ
  | v :: vs => (wipeE ρ vs).set v .un
theorem wipeE_len (ρ : Ev) : ∀ vs : List Nat, (wipeE ρ vs).length = ρ.length
  | [] => rfl
  | v :: vs => by
    unfold wipeE
    rw [List.length_set, wipeE_len ρ vs]
theorem wipeE_out {ρ : Ev} {i : Nat} : ∀ {vs : List Nat}, i ∉ vs → (wipeE ρ vs)[i]? = ρ[i]?
  | [], _ => rfl
  | v :: vs, h => by
    have h1 : v ≠ i := fun z => h (by rw [z]; exact List.mem_cons_self ..)
    have h2 : i ∉ vs := fun z => h (List.mem_cons_of_mem _ z)
    unfold wipeE
    rw [List.getElem?_set_ne h1, wipeE_out h2]
theorem wipeE_in {ρ : Ev} {i : Nat} {sl : Sl} : ∀ {vs : List Nat}, i ∈ vs → (wipeE ρ vs)[i]? = some sl → sl = .un
  | v :: vs, h, e => by
    unfold wipeE at e
    by_cases hv : v = i
    · subst hv
      by_cases hl : v < (wipeE ρ vs).length
      · rw [List.getElem?_set_self hl] at e
        cases e
        rfl
      · rw [List.getElem?_eq_none (by simpa using hl)] at e
        cases e
    · rw [List.getElem?_set_ne hv] at e
      rcases List.mem_cons.mp h with z | z
      · exact absurd z.symm hv
      · exact wipeE_in z e
theorem vAt_wipe_out {σ : L2.St} {i : Nat} {vs : List Nat} (h : i ∉ vs) : vAt (wipe σ vs) i = vAt σ i := by
  unfold vAt
  rw [wipe_out h]
def plainSl : Sl → Bool
  | .un => true
  | .dat _ => true
  | _ => false
def okWipe (ρ : Ev) (vs : List Nat) : Bool := vs.all fun i => match (ρ[i]? : Option Sl) with
  | some sl => plainSl sl
  | none => true
def restore (ρe ρ : Ev) : List Nat → Ev
  | [] => ρe
  | v :: vs => match (ρ[v]? : Option Sl) with
    | some sl => (restore ρe ρ vs).set v sl
    | none => restore ρe ρ vs
theorem restore_len (ρe ρ : Ev) : ∀ vs : List Nat, (restore ρe ρ vs).length = ρe.length
  | [] => rfl
  | v :: vs => by
    unfold restore
    split
    · rw [List.length_set, restore_len ρe ρ vs]
    · exact restore_len ρe ρ vs
theorem restore_out {ρe ρ : Ev} {i : Nat} : ∀ {vs : List Nat}, i ∉ vs → (restore ρe ρ vs)[i]? = ρe[i]?
  | [], _ => rfl
  | v :: vs, h => by
    have h1 : v ≠ i := fun z => h (by rw [z]; exact List.mem_cons_self ..)
    have h2 : i ∉ vs := fun z => h (List.mem_cons_of_mem _ z)
    unfold restore
    split
    · rw [List.getElem?_set_ne h1, restore_out h2]
    · exact restore_out h2
theorem restore_in {ρe ρ : Ev} {i : Nat} (hl : ρe.length = ρ.length) : ∀ {vs : List Nat}, i ∈ vs → (restore ρe ρ vs)[i]? = ρ[i]?
  | v :: vs, h => by
    unfold restore
    by_cases hv : v = i
    · subst hv
      by_cases hi : v < ρ.length
      · rw [List.getElem?_eq_getElem hi]
        dsimp only
        rw [List.getElem?_set_self (by rw [restore_len, hl]; exact hi)]
      · have hn : ρ[v]? = none := List.getElem?_eq_none (by omega)
        rw [hn]
        dsimp only
        exact List.getElem?_eq_none (by rw [restore_len, hl]; omega)
    · have h2 : i ∈ vs := by
        rcases List.mem_cons.mp h with z | z
        · exact absurd z.symm hv
        · exact z
      split
      · rw [List.getElem?_set_ne hv, restore_in hl h2]
      · exact restore_in hl h2

theorem wipe_in {σ : L2.St} {i : Nat} : ∀ {vs : List Nat}, i ∈ vs → (wipe σ vs)[i]? = if i < σ.length then some none else none
  | v :: vs, h => by
    unfold wipe
    by_cases hv : v = i
    · subst hv
      by_cases hi : v < σ.length
      · rw [List.getElem?_set_self (by rw [wipe_length]; exact hi), if_pos hi]
      · rw [List.getElem?_eq_none (by rw [List.length_set, wipe_length]; omega), if_neg hi]
    · rw [List.getElem?_set_ne hv]
      rcases List.mem_cons.mp h with z | z
      · exact absurd z.symm hv
      · exact wipe_in z
theorem wipe_but {σ σ' : L2.St} {vs : List Nat} (h : ∀ j : Nat, j ∉ vs → σ'[j]? = σ[j]?) (hl : σ'.length = σ.length) : wipe σ' vs = wipe σ vs := by
  apply List.ext_getElem?
  intro j
  by_cases hj : j ∈ vs
  · rw [wipe_in hj, wipe_in hj, hl]
  · rw [wipe_out hj, wipe_out hj, h j hj]
section
variable {c : Co} {F F' H H' : Hp} {σ : L2.St} {ρ : Ev}
theorem Rl.wipe (R : Rl c F H σ ρ) (vs : List Nat) : Rl c F H (L2.wipe σ vs) (wipeE ρ vs) := by
  have old : ∀ (i : Nat) sl, (wipeE ρ vs)[i]? = some sl → sl = .un ∨ (i ∉ vs ∧ ρ[i]? = some sl) := fun i sl e => by
    by_cases h : i ∈ vs
    · exact .inl (wipeE_in h e)
    · rw [wipeE_out h] at e
      exact .inr ⟨h, e⟩
  refine R.slots (by rw [wipe_length, wipeE_len]; exact R.len) (fun i sl e => ?_) (fun i j a ds es e1 e2 e3 e4 => ?_) (fun i j ds es e1 e2 => ?_) (fun i j a ds es e1 e2 e3 e4 => ?_)
  · rcases old i sl e with rfl | ⟨h, e⟩
    · trivial
    · rw [vAt_wipe_out h]
      exact R.sl i sl e
  · rcases old i _ e1 with h | ⟨h1, e1⟩
    · cases h
    · rcases old j _ e2 with h | ⟨h2, e2⟩
      · cases h
      · rw [vAt_wipe_out h1] at e3
        rw [vAt_wipe_out h2] at e4
        exact R.dj i j a ds es e1 e2 e3 e4
  · rcases old i _ e1 with h | ⟨h1, e1⟩
    · cases h
    · rcases old j _ e2 with h | ⟨h2, e2⟩
      · cases h
      · exact R.iu i j ds es e1 e2
  · rcases old i _ e1 with h | ⟨h1, e1⟩
    · cases h
    · rcases old j _ e2 with h | ⟨h2, e2⟩
      · cases h
      · rw [vAt_wipe_out h1] at e3
        rw [vAt_wipe_out h2] at e4
        exact R.dk i j a ds es e1 e2 e3 e4
theorem Rl.restore {ρe : Ev} {vs : List Nat} {F0 H0 : Hp} (R0 : Rl c F0 H0 σ ρ) (s : Same F0 F) (ok : okWipe ρ vs = true) (R : Rl c F H (L2.wipe σ vs) ρe) : Rl c F H σ (PD.restore ρe ρ vs) := by
  have hl : ρe.length = ρ.length := by rw [← R.len, wipe_length, R0.len]
  have old : ∀ (i : Nat) sl, (PD.restore ρe ρ vs)[i]? = some sl → (i ∈ vs ∧ ρ[i]? = some sl ∧ plainSl sl = true) ∨ (i ∉ vs ∧ ρe[i]? = some sl) := fun i sl e => by
    by_cases h : i ∈ vs
    · rw [restore_in hl h] at e
      have q := List.all_eq_true.mp ok i h
      rw [e] at q
      exact .inl ⟨h, e, q⟩
    · rw [restore_out h] at e
      exact .inr ⟨h, e⟩
  refine R.slots (by rw [restore_len, ← R.len, wipe_length]) (fun i sl e => ?_) (fun i j a ds es e1 e2 e3 e4 => ?_) (fun i j ds es e1 e2 => ?_) (fun i j a ds es e1 e2 e3 e4 => ?_)
  · rcases old i sl e with ⟨h, e, p⟩ | ⟨h, e⟩
    · have q := R0.sl i sl e
      cases sl with
      | un => trivial
      | fn n => cases p
      | dat d =>
        obtain ⟨x, e1, e2⟩ := q
        exact ⟨x, e1, dp_same s e2⟩
      | own ds => cases p
      | io ds => cases p
      | dic kvs => cases p
    · have q := R.sl i sl e
      rw [vAt_wipe_out h] at q
      exact q
  · rcases old i _ e1 with ⟨_, _, p⟩ | ⟨h1, e1⟩
    · cases p
    · rcases old j _ e2 with ⟨_, _, p⟩ | ⟨h2, e2⟩
      · cases p
      · rw [← vAt_wipe_out h1] at e3
        rw [← vAt_wipe_out h2] at e4
        exact R.dj i j a ds es e1 e2 e3 e4
  · rcases old i _ e1 with ⟨_, _, p⟩ | ⟨h1, e1⟩
    · cases p
    · rcases old j _ e2 with ⟨_, _, p⟩ | ⟨h2, e2⟩
      · cases p
      · exact R.iu i j ds es e1 e2
  · rcases old i _ e1 with ⟨_, _, p⟩ | ⟨h1, e1⟩
    · cases p
    · rcases old j _ e2 with ⟨_, _, p⟩ | ⟨h2, e2⟩
      · cases p
      · rw [← vAt_wipe_out h1] at e3
        rw [← vAt_wipe_out h2] at e4
        exact R.dk i j a ds es e1 e2 e3 e4

/-! ### a list on the side, kept -/
abbrev Co.with (c : Co) (D : Addr) (o : HO) : Co := { c with H0 := upd c.H0 D o }
theorem Rl.guard {D : Addr} {ds : List PyData} {vs : List V} (R : Rl c F H σ ρ) (f : Fresh c F H σ ρ D ds) (hv : H D = some (.lst vs)) (f0 : c.F0 D = none) : Rl (c.with D (.lst vs)) F H σ ρ := by
  have nio : D ∉ c.io := fun z => (R.ioh D z).1 f.h0
  refine ⟨R.len, R.sub, R.ft, R.tb, R.mono, fun b o e h1 h2 => ?_, fun a ha => ?_, fun i sl e => ?_, R.dj, R.iu, fun a h1 h2 => ?_, R.tf, R.dk⟩
  · by_cases hb : b = D
    · have e' : upd c.H0 D (.lst vs) b = some o := e
      rw [hb, upd_same] at e'
      rw [hb, hv]
      exact e'
    · have e' : upd c.H0 D (.lst vs) b = some o := e
      rw [upd_ne hb] at e'
      exact R.fr b o e' h1 h2
  · have na : a ≠ D := fun z => nio (by rw [← z]; exact ha)
    obtain ⟨h1, h2⟩ := R.ioh a ha
    refine ⟨?_, h2⟩
    show upd c.H0 D (.lst vs) a ≠ none
    rw [upd_ne na]
    exact h1
  · have q := R.sl i sl e
    cases sl with
    | un => trivial
    | fn n => exact q
    | dat d => exact q
    | own es =>
      obtain ⟨a, ws, e1, e2, e3, e4, e5, e6⟩ := q
      have na : a ≠ D := fun z => f.no i es e (by rw [e1, z])
      refine ⟨a, ws, e1, e2, e3, e4, e5, ?_⟩
      show upd c.H0 D (.lst vs) a = none
      rw [upd_ne na]
      exact e6
    | io es => exact q
    | dic kvs =>
      obtain ⟨a, ws, e1, e2, e3, e4, e5, e6⟩ := q
      have na : a ≠ D := fun z => by
        rw [z, hv] at e2
        cases e2
      refine ⟨a, ws, e1, e2, e3, e4, e5, ?_⟩
      show upd c.H0 D (.lst vs) a = none
      rw [upd_ne na]
      exact e6
  · by_cases ha : a = D
    · rw [ha]
      exact f.nf
    · refine R.nw a ?_ h2
      have h1' : upd c.H0 D (.lst vs) a ≠ none := h1
      rw [upd_ne ha] at h1'
      exact h1'
theorem Rl.unguard {D : Addr} {o : HO} (R : Rl (c.with D o) F H σ ρ) (h0 : c.H0 D = none) (nT : D ∉ c.T) (nio : D ∉ c.io) (f0 : c.F0 D = none) : Rl c F H σ ρ ∧ H D = some o ∧ F D = none ∧ ∀ i es, ρ[i]? = some (Sl.own es) → vAt σ i ≠ some (.ref D) := by
  refine ⟨⟨R.len, R.sub, R.ft, R.tb, R.mono, fun b x e h1 h2 => ?_, fun a ha => ?_, fun i sl e => ?_, R.dj, R.iu, fun a h1 h2 => ?_, R.tf, R.dk⟩, R.fr D o upd_same nT nio, R.nw D (by show upd c.H0 D o D ≠ none; rw [upd_same]; exact fun z => by cases z) f0, fun i es e z => ?_⟩
  · refine R.fr b x ?_ h1 h2
    show upd c.H0 D o b = some x
    rw [upd_ne (ne_of_none e h0)]
    exact e
  · obtain ⟨h1, h2⟩ := R.ioh a ha
    have na : a ≠ D := fun z => nio (by rw [← z]; exact ha)
    have h1' : upd c.H0 D o a ≠ none := h1
    rw [upd_ne na] at h1'
    exact ⟨h1', h2⟩
  · have q := R.sl i sl e
    cases sl with
    | un => trivial
    | fn n => exact q
    | dat d => exact q
    | own es =>
      obtain ⟨a, ws, e1, e2, e3, e4, e5, e6⟩ := q
      refine ⟨a, ws, e1, e2, e3, e4, e5, ?_⟩
      have e6' : upd c.H0 D o a = none := e6
      by_cases na : a = D
      · rw [na, upd_same] at e6'
        cases e6'
      · rw [upd_ne na] at e6'
        exact e6'
    | io es => exact q
    | dic kvs =>
      obtain ⟨a, ws, e1, e2, e3, e4, e5, e6⟩ := q
      refine ⟨a, ws, e1, e2, e3, e4, e5, ?_⟩
      have e6' : upd c.H0 D o a = none := e6
      by_cases na : a = D
      · rw [na, upd_same] at e6'
        cases e6'
      · rw [upd_ne na] at e6'
        exact e6'
  · refine R.nw a ?_ h2
    show upd c.H0 D o a ≠ none
    by_cases na : a = D
    · rw [na, upd_same]
      exact fun z => by cases z
    · rw [upd_ne na]
      exact h1
  · obtain ⟨a, ws, e1, e2, e3, e4, e5, e6⟩ := R.sl i _ e
    rw [z] at e1
    cases e1
    have e6' : upd c.H0 D o D = none := e6
    rw [upd_same] at e6'
    cases e6'
/-- a list on the side changes -/
theorem Rl.side {D : Addr} {vs : List V} {o : HO} (R : Rl c F H σ ρ) (hD : H D = some (.lst vs)) (nf : F D = none) (nT : D ∉ c.T) (h0 : c.H0 D = none) (no : ∀ i es, ρ[i]? = some (Sl.own es) → vAt σ i ≠ some (.ref D)) : Rl c F (upd H D o) σ ρ := by
  have nio : ∀ a ∈ c.io, a ≠ D := fun a ha z => (R.ioh a ha).1 (by rw [z]; exact h0)
  refine ⟨R.len, fun b x e => ?_, R.ft, fun P hP => ?_, R.mono, fun b x e h1 h2 => ?_, fun a ha => ?_, fun i sl e => ?_, R.dj, R.iu, R.nw, R.tf, R.dk⟩
  · rw [upd_ne (ne_of_none e nf)]
    exact R.sub _ _ e
  · obtain ⟨ps, e, t⟩ := R.tb P hP
    have nP : P ≠ D := fun z => nT (by rw [← z]; exact hP)
    exact ⟨ps, by rw [upd_ne nP]; exact e, t⟩
  · rw [upd_ne (ne_of_none e h0)]
    exact R.fr b x e h1 h2
  · obtain ⟨h1, h2, h3, ws, h4⟩ := R.ioh a ha
    exact ⟨h1, h2, h3, ws, by rw [upd_ne (nio a ha)]; exact h4⟩
  · have q := R.sl i sl e
    cases sl with
    | un => trivial
    | fn n => exact q
    | dat d => exact q
    | own es =>
      obtain ⟨a, ws, e1, e2, e3, e4, e5, e6⟩ := q
      have na : a ≠ D := fun z => no i es e (by rw [e1, z])
      exact ⟨a, ws, e1, by rw [upd_ne na]; exact e2, e3, e4, e5, e6⟩
    | io es =>
      obtain ⟨a, ws, e0, e1, e2, e3, e4, e5⟩ := q
      exact ⟨a, ws, e0, e1, by rw [upd_ne (nio a (by rw [e0]; simp))]; exact e2, e3, e4, e5⟩
    | dic kvs =>
      obtain ⟨a, ws, e1, e2, e3, e4, e5, e6⟩ := q
      have na : a ≠ D := fun z => by
        rw [z, hD] at e2
        cases e2
      exact ⟨a, ws, e1, by rw [upd_ne na]; exact e2, e3, e4, e5, e6⟩
end

/-! ### new lists -/
def rF (c : Co) (f : SI) : TE := fun σ H Q => ∃ F ρ ds ρ', Rl c F H σ ρ ∧ f ρ = some (ds, ρ') ∧ ∀ a H' F', Same F F' → Rl c F' H' σ ρ' → Fresh c F' H' σ ρ' a ds → Q (.ref a) H'
structure EF (c : Co) (X : Cx) (e : Expr) (f : SI) : Prop where
  pe : PE X e (rF c f)
def sFr (f : SI) : SE := fun ρ => match f ρ with
  | some (ds, ρ1) => some (.d (.list ds), ρ1)
  | none => none
section
variable {c : Co} {X : Cx} {e : Expr} {es : List Expr} {pos : Pos}
theorem eo_fr {f : SI} (h : EF c X e f) : EO c X e (sFr f) := by
  refine ⟨pe_imp h.pe fun σ H Q ⟨F, ρ, x, ρ', R, e, k⟩ => ?_⟩
  unfold sFr at e
  cases e1 : f ρ with
  | none => rw [e1] at e; cases e
  | some p =>
    obtain ⟨ds, ρ1⟩ := p
    rw [e1] at e
    cases e
    refine ⟨F, ρ, ds, _, R, e1, fun a H' F' s R' f' => ?_⟩
    obtain ⟨vs, hv, hd⟩ := f'.at_
    have R2 := R'.freeze f' hv
    exact k (.ref a) H' _ (s.trans fun b o z => by rw [upd_ne (ne_of_none z f'.nf)]; exact z) R2 (dp_frozen f'.nf hd)
/-- x = a new list, x changed later -/
def sOwn (i : Nat) (f : SI) : SS := fun ρ => match f ρ with
  | some (ds, ρ1) => some (.nx, ρ1.set i (.own ds))
  | none => none
theorem Rl.putOwn (i : Nat) {F H : Hp} {σ : L2.St} {ρ1 : Ev} {a : Addr} {ds : List PyData} (R' : Rl c F H σ ρ1) (f' : Fresh c F H σ ρ1 a ds) : Rl c F H (σ.set i (some (.ref a))) (ρ1.set i (.own ds)) := by
  obtain ⟨vs, hv, hd⟩ := f'.at_
  have far : ∀ (j : Nat) sl, (ρ1.set i (.own ds))[j]? = some sl → (i = j ∧ sl = .own ds ∧ i < ρ1.length) ∨ (i ≠ j ∧ ρ1[j]? = some sl) := fun j sl e => by
    by_cases hj : i = j
    · subst hj
      by_cases hi : i < ρ1.length
      · rw [List.getElem?_set_self hi] at e
        cases e
        exact .inl ⟨rfl, rfl, hi⟩
      · rw [List.getElem?_eq_none (by simpa using hi)] at e
        cases e
    · rw [List.getElem?_set_ne hj] at e
      exact .inr ⟨hj, e⟩
  refine R'.slots (by rw [List.length_set, List.length_set]; exact R'.len) (fun j sl e => ?_) (fun j m b xs ys e1 e2 e3 e4 => ?_) (fun j m xs ys e1 e2 => ?_) (fun j m b xs ys e1 e2 e3 e4 => ?_)
  · rcases far j sl e with ⟨rfl, rfl, hi⟩ | ⟨hj, e⟩
    · exact ⟨a, vs, vAt_set (by rw [R'.len]; exact hi), hv, hd, f'.nf, f'.nt, f'.h0⟩
    · rw [vAt_ne hj]
      exact R'.sl j sl e
  · rcases far j _ e1 with ⟨rfl, _, hi⟩ | ⟨hj, e1⟩
    · rcases far m _ e2 with ⟨rfl, _, _⟩ | ⟨hm, e2⟩
      · rfl
      · rw [vAt_set (by rw [R'.len]; exact hi)] at e3
        cases e3
        rw [vAt_ne hm] at e4
        exact absurd e4 (f'.no m ys e2)
    · rcases far m _ e2 with ⟨rfl, _, hi⟩ | ⟨hm, e2⟩
      · rw [vAt_set (by rw [R'.len]; exact hi)] at e4
        cases e4
        rw [vAt_ne hj] at e3
        exact absurd e3 (f'.no j xs e1)
      · rw [vAt_ne hj] at e3
        rw [vAt_ne hm] at e4
        exact R'.dj j m b xs ys e1 e2 e3 e4
  · rcases far j _ e1 with ⟨_, h, _⟩ | ⟨hj, e1⟩
    · cases h
    · rcases far m _ e2 with ⟨_, h, _⟩ | ⟨hm, e2⟩
      · cases h
      · exact R'.iu j m xs ys e1 e2
  · rcases far j _ e1 with ⟨_, h, _⟩ | ⟨hj, e1⟩
    · cases h
    · rcases far m _ e2 with ⟨_, h, _⟩ | ⟨hm, e2⟩
      · cases h
      · rw [vAt_ne hj] at e3
        rw [vAt_ne hm] at e4
        exact R'.dk j m b xs ys e1 e2 e3 e4
theorem own_core (i : Nat) {f : SI} {D : Ends} {σ : L2.St} {H : Hp} (q : rS c (sOwn i f) D σ H) : rF c f σ H fun x H1 => gName i x σ H1 D.nx := by
  obtain ⟨F, ρ, fl, ρ', R, e, k⟩ := q
  unfold sOwn at e
  cases e1 : f ρ with
  | none => rw [e1] at e; cases e
  | some p =>
    obtain ⟨ds, ρ1⟩ := p
    rw [e1] at e
    cases e
    refine ⟨F, ρ, ds, ρ1, R, e1, fun a H' F' s R' f' => k (σ.set i (some (.ref a))) H' F' s (R'.putOwn i f')⟩
theorem es_own (i : Nat) {f : SI} {st : Stmt} (h : ∀ {te : TE}, PE X e te → PS X st (tAsg te (gName i))) (he : EF c X e f) : ES c X st (sOwn i f) :=
  ⟨ps_imp (h he.pe) fun _ _ _ q => own_core i q⟩
/-- [a, b, ..] -/
def sLst (fa : SA) : SI := fun ρ => match fa ρ with
  | some (xs, ρ1) => match allD xs with
    | some ds => if ds.length ≤ 1000000 then some (ds, ρ1) else none
    | none => none
  | none => none
theorem size_line {n : Nat} (h : n ≤ 1000000) : n ≤ sizeLine := Nat.le_trans h (by decide)
theorem ef_lst {fa : SA} (h : EA c X es fa) : EF c X (.List es pos) (sLst fa) := by
  refine ⟨pe_imp (pe_lst h.pa) fun σ H Q ⟨F, ρ, x, ρ', R, e, k⟩ => ?_⟩
  unfold sLst at e
  cases e1 : fa ρ with
  | none => rw [e1] at e; cases e
  | some p =>
    obtain ⟨xs, ρ1⟩ := p
    rw [e1] at e
    dsimp only at e
    cases e2 : allD xs with
    | none => rw [e2] at e; cases e
    | some ds =>
      rw [e2] at e
      dsimp only at e
      split at e
      · rename_i hn
        cases e
        refine ⟨F, ρ, xs, _, R, e1, fun vs H1 F1 s1 R1 o1 => ?_⟩
        have hd := allD_ok o1 e2
        refine ⟨by rw [dpAll_len hd]; exact size_line hn, fun p hp => ?_⟩
        obtain ⟨R2, f2⟩ := R1.fresh hp hd
        exact k p _ F1 s1 R2 f2
      · cases e
/-- (a, b, ..) -/
def sTup (fa : SA) : SE := fun ρ => match fa ρ with
  | some (xs, ρ1) => match allD xs with
    | some ds => if ds.length ≤ 1000000 then some (.d (.tuple ds), ρ1) else none
    | none => none
  | none => none
theorem dp_newT {K : PySem.W.Frag} {F : Hp} {p : Addr} {vs : List V} {ds : List PyData} {ob : Obj} (fp : F p = none) (h : DzAll K F vs ds) : Dz K (upd F p (.frz ob (.tup vs))) (.ref p) (.tuple ds) :=
  .tup (.inl (.inr ⟨ob, upd_same⟩)) (dpAll_same (fun b o e => by
    rw [upd_ne (ne_of_none e fp)]
    exact e) h)
theorem dp_newL {K : PySem.W.Frag} {F : Hp} {p : Addr} {vs : List V} {ds : List PyData} (fp : F p = none) (h : DzAll K F vs ds) : Dz K (upd F p (.lst vs)) (.ref p) (.list ds) := dp_frozen fp h
theorem eo_tup {fa : SA} {x1 : Nat} (h : EA c X es fa) : EO c X (.Tuple es x1 pos) (sTup fa) := by
  refine ⟨pe_imp (pe_tupF h.pa) fun σ H Q ⟨F, ρ, x, ρ', R, e, k⟩ => ?_⟩
  unfold sTup at e
  cases e1 : fa ρ with
  | none => rw [e1] at e; cases e
  | some p =>
    obtain ⟨xs, ρ1⟩ := p
    rw [e1] at e
    dsimp only at e
    cases e2 : allD xs with
    | none => rw [e2] at e; cases e
    | some ds =>
      rw [e2] at e
      dsimp only at e
      split at e
      · rename_i hn
        cases e
        refine ⟨F, ρ, xs, _, R, e1, fun vs H1 F1 s1 R1 o1 => ?_⟩
        have hd := allD_ok o1 e2
        refine ⟨by rw [dpAll_len hd]; exact size_line hn, fun p ob hp hob => ?_⟩
        have xt := Xt.new (o := .frz ob (.tup vs)) R1.sub hp hob
        exact k (.ref p) _ _ (s1.trans xt.f) (R1.xt xt) (dp_newT (R1.sub.free hp) hd)
      · cases e
/-! ### comprehensions -/
def compL (g : SG) (t : STe) (f : SE) (vs : List Nat) : List PyData → List PyData → Ev → Option (List PyData × Ev)
  | [], acc, ρ => some (acc, ρ)
  | d :: ds, acc, ρ => match g d (wipeE ρ vs) with
    | none => none
    | some ρ1 => match t ρ1 with
      | none => none
      | some (false, ρ2) => compL g t f vs ds acc ρ2
      | some (true, ρ2) => match f ρ2 with
        | some (.d y, ρ3) => if acc.length < 1000000 then compL g t f vs ds (acc ++ [y]) ρ3 else none
        | _ => none
def sComp (fi : SI) (g : SG) (t : STe) (f : SE) (vs : List Nat) : SI := fun ρ => match fi ρ with
  | none => none
  | some (items, ρ1) => if okWipe ρ1 vs then match compL g t f vs items [] ρ1 with
      | some (ds, ρ2) => some (ds, restore (wipeE ρ2 vs) ρ1 vs)
      | none => none
    else none
def tYes' : STe := fun ρ => some (true, ρ)
structure ETs (c : Co) (X : Cx) (ifs : List Expr) (f : STe) : Prop where
  pts : PTs X ifs (rT c f)
theorem ets_nil : ETs c X [] tYes' := ⟨⟨fun pins s σ H Q I ⟨F, ρ, b, ρ', R, e, k⟩ => by
  cases e
  exact pts_nil.run pins s σ H Q I (k H F (Same.refl _) R)⟩⟩
theorem ets_one {q : Expr} {t : STe} (h : ET c X q t) : ETs c X [q] t := ⟨pts_one h.pt⟩
/-- the same context, begun elsewhere -/
abbrev Co.re (c : Co) (H0 F0 : Hp) (io : List Addr) : Co := ⟨c.K, c.T, H0, F0, io, c.fv⟩
abbrev AnyG (c : Co) (g : SG) (ks : List Nat) : TG := fun x σ H Q => ∃ c' : Co, c'.K = c.K ∧ (c'.T = c.T ∧ c'.fv = c.fv) ∧ rG c' g ks x σ H Q
abbrev AnyT (c : Co) (t : STe) : TT := fun σ H Q => ∃ c' : Co, c'.K = c.K ∧ (c'.T = c.T ∧ c'.fv = c.fv) ∧ rT c' t σ H Q
abbrev AnyE (c : Co) (f : SE) : TE := fun σ H Q => ∃ c' : Co, c'.K = c.K ∧ (c'.T = c.T ∧ c'.fv = c.fv) ∧ rE c' f σ H Q
theorem re_eq {c c' : Co} (hK : c'.K = c.K) (hT : c'.T = c.T ∧ c'.fv = c.fv) : c' = c.re c'.H0 c'.F0 c'.io := by
  obtain ⟨hT, hv⟩ := hT
  cases c'
  cases c
  cases hK
  cases hT
  cases hv
  rfl
theorem comp_core {fi : SI} {g : SG} {ks : List Nat} {t : STe} {f : SE} {vs : List Nat} (hks : ∀ i ∈ ks, i ∈ vs) {σ : L2.St} {H : Hp} {Q : VK} (hyp : rF c (sComp fi g t f vs) σ H Q) : tLc (rIt c fi) (AnyG c g ks) (AnyT c t) (AnyE c f) vs σ H Q := by
  obtain ⟨F, ρ, out, ρ', R, e, k⟩ := hyp
  unfold sComp at e
  cases e1 : fi ρ with
  | none => rw [e1] at e; cases e
  | some p =>
    obtain ⟨items, ρ1⟩ := p
    rw [e1] at e
    dsimp only at e
    by_cases okw : okWipe ρ1 vs = true
    · rw [if_pos okw] at e
      cases e2 : compL g t f vs items [] ρ1 with
      | none => rw [e2] at e; cases e
      | some q =>
        obtain ⟨ds, ρe⟩ := q
        rw [e2] at e
        cases e
        refine ⟨F, ρ, items, ρ1, R, e1, fun J H1 F1 s1 R1 wk => fun D hD => ?_⟩
        obtain ⟨R2, f2⟩ := R1.fresh (vs := []) (ds := []) hD .nil
        have f0 : c.F0 D = none := R1.mono.free (R1.sub.free hD)
        have nio : D ∉ c.io := fun z => (R2.ioh D z).1 f2.h0
        -- the turns
        refine ⟨fun i m H => i + m = items.length ∧ ∃ F2 ρ2 acc, Same F1 F2 ∧ Rl c F2 H (L2.wipe σ vs) (wipeE ρ2 vs) ∧ Fresh c F2 H (L2.wipe σ vs) (wipeE ρ2 vs) D acc ∧ compL g t f vs (items.drop i) acc ρ2 = some (out, ρe),
          ⟨items.length, by omega, F1, ρ1, [], Same.refl _, R2.wipe vs, ⟨f2.at_, f2.nf, f2.nt, f2.h0, fun i es e z => ?_⟩, e2⟩, ?_⟩
        · by_cases hi : i ∈ vs
          · cases wipeE_in hi e
          · rw [wipeE_out hi] at e
            rw [vAt_wipe_out hi] at z
            exact f2.no i es e z
        · rintro i m H2 ⟨him, F2, ρ2, acc, s2, R2, fr, e3⟩
          cases m with
          | zero =>
            have hi : i = items.length := by omega
            rw [hi, List.drop_length] at e3
            simp only [compL, Option.some.injEq, Prod.mk.injEq] at e3
            obtain ⟨rfl, rfl⟩ := e3
            rw [hi]
            refine .inl ⟨wk.stop F2 H2 s2 R2.sub, ?_⟩
            have R3 := R1.restore s2 okw R2
            refine k D H2 F2 (s1.trans s2) R3 ⟨fr.at_, fr.nf, fr.nt, fr.h0, fun j es e z => ?_⟩
            by_cases hj : j ∈ vs
            · have hl : (wipeE ρ2 vs).length = ρ1.length := by rw [← R2.len, wipe_length, R1.len]
              rw [restore_in hl hj] at e
              have q := List.all_eq_true.mp okw j hj
              rw [e] at q
              cases q
            · rw [restore_out hj] at e
              rw [← vAt_wipe_out hj] at z
              exact fr.no j es e z
          | succ m =>
            have hi : i < items.length := by omega
            rw [List.drop_eq_getElem_cons hi] at e3
            have at_ : items[i]? = some items[i] := List.getElem?_eq_getElem hi
            obtain ⟨go, yl⟩ := wk.go i _ F2 H2 at_ s2 R2.sub
            simp only [compL] at e3
            cases e4 : g items[i] (wipeE ρ2 vs) with
            | none => rw [e4] at e3; cases e3
            | some ρ3 =>
              rw [e4] at e3
              dsimp only at e3
              obtain ⟨av, hav, had⟩ := fr.at_
              have gd := R2.guard fr hav f0
              refine .inr ⟨go, fun H' => i + 1 + m = items.length ∧ ∃ F2 ρ2 acc, Same F1 F2 ∧ Rl c F2 H' (L2.wipe σ vs) (wipeE ρ2 vs) ∧ Fresh c F2 H' (L2.wipe σ vs) (wipeE ρ2 vs) D acc ∧ compL g t f vs (items.drop (i + 1)) acc ρ2 = some (out, ρe), fun H' hN => ⟨m, by omega, hN⟩, fun x H3 hy => ?_⟩
              obtain ⟨F3, xt, dx⟩ := yl x H3 hy
              refine ⟨c.with D (.lst av), rfl, ⟨rfl, rfl⟩, F3, wipeE ρ2 vs, _, ρ3, gd.xt xt, dx, e4, fun σ4 but R4 => ?_⟩
              have ew : L2.wipe σ4 vs = L2.wipe σ vs := wipe_but (fun j hj => (but.2 j fun z => hj (hks j z)).trans (wipe_out hj)) (but.1.trans (wipe_length σ vs))
              refine ⟨ew, ?_⟩
              cases e5 : t ρ3 with
              | none => rw [e5] at e3; cases e3
              | some q =>
                obtain ⟨b, ρ5⟩ := q
                rw [e5] at e3
                refine ⟨c.with D (.lst av), rfl, ⟨rfl, rfl⟩, F3, ρ3, b, ρ5, R4, e5, fun H5 F5 s5 R5 => ?_⟩
                cases b with
                | false =>
                  dsimp only at e3
                  simp only [Bool.false_eq_true, if_false]
                  obtain ⟨R6, hD6, fD6, no6⟩ := R5.unguard f2.h0 f2.nt nio f0
                  have R7 := R6.wipe vs
                  rw [ew] at R7
                  refine ⟨by omega, F5, ρ5, acc, s2.trans (xt.f.trans s5), R7, ⟨⟨av, hD6, dpAll_same (xt.f.trans s5) had⟩, fD6, f2.nt, f2.h0, fun j es e z => ?_⟩, e3⟩
                  by_cases hj : j ∈ vs
                  · cases wipeE_in hj e
                  · rw [wipeE_out hj] at e
                    rw [← ew, vAt_wipe_out hj] at z
                    exact no6 j es e z
                | true =>
                  dsimp only at e3
                  simp only [if_true]
                  cases e6 : f ρ5 with
                  | none => rw [e6] at e3; cases e3
                  | some q =>
                    obtain ⟨y, ρ6⟩ := q
                    rw [e6] at e3
                    cases y with
                    | s i => cases e3
                    | d y =>
                      dsimp only at e3
                      split at e3
                      · rename_i hacc
                        refine ⟨c.with D (.lst av), rfl, ⟨rfl, rfl⟩, F5, ρ5, _, ρ6, R5, e6, fun v H7 F7 s7 R7 o7 => ?_⟩
                        obtain ⟨R8, hD8, fD8, no8⟩ := R7.unguard f2.h0 f2.nt nio f0
                        have had8 : DzAll c.K F7 av acc := dpAll_same (xt.f.trans (s5.trans s7)) had
                        refine ⟨av, hD8, by rw [dpAll_len had]; exact Nat.lt_of_lt_of_le hacc (by decide), by omega, F7, ρ6, acc ++ [y], s2.trans (xt.f.trans (s5.trans s7)), ?_, ⟨⟨av ++ [v], upd_same, dpAll_app had8 (.cons o7 .nil)⟩, fD8, f2.nt, f2.h0, fun j es e z => ?_⟩, e3⟩
                        · have R9 := (R8.side (o := .lst (av ++ [v])) hD8 fD8 f2.nt f2.h0 no8).wipe vs
                          rw [ew] at R9
                          exact R9
                        · by_cases hj : j ∈ vs
                          · cases wipeE_in hj e
                          · rw [wipeE_out hj] at e
                            rw [← ew, vAt_wipe_out hj] at z
                            exact no8 j es e z
                      · cases e3
    · rw [if_neg okw] at e
      cases e

section
variable {elt tg iter : Expr} {ifs : List Expr} {scope : Scope} {own : List (Str × Nat)} {fi : SI} {g : SG} {ks : List Nat} {t : STe} {f : SE}
theorem any_g {G : Cx} (h : ∀ H0 F0 io, EG (c.re H0 F0 io) G tg g ks) : PG G tg (AnyG c g ks) := ⟨fun pins s' σ H' v u Q I r ⟨c', hK, hT, q⟩ => by
  rw [re_eq hK hT] at q
  exact (h _ _ _).pg.run pins s' σ H' v u Q I r q⟩
theorem any_t {G : Cx} (h : ∀ H0 F0 io, ETs (c.re H0 F0 io) G ifs t) : PTs G ifs (AnyT c t) := ⟨fun pins s' σ H' Q I ⟨c', hK, hT, q⟩ => by
  rw [re_eq hK hT] at q
  exact (h _ _ _).pts.run pins s' σ H' Q I q⟩
theorem any_e {G : Cx} (h : ∀ H0 F0 io, EO (c.re H0 F0 io) G elt f) : PE G elt (AnyE c f) := ⟨fun pins s' σ H' Q I ⟨c', hK, hT, q⟩ => by
  rw [re_eq hK hT] at q
  exact (h _ _ _).pe.run pins s' σ H' Q I q⟩
theorem ef_comp
    (h : ∀ {wi : TI} {g' : TG} {tt : TT} {te : TE}, PI X tg iter wi → (∀ (s : Shared) (H : Hp) (C : Addr) (cl : List (Str × Addr)) (fp : List Addr), PG (X.blk s H scope (compEnvC scope cl C X.env) fp) tg g') →
      (∀ (s : Shared) (H : Hp) (C : Addr) (cl : List (Str × Addr)) (fp : List Addr), PTs (X.blk s H scope (compEnvC scope cl C X.env) fp) ifs tt) → (∀ (s : Shared) (H : Hp) (C : Addr) (cl : List (Str × Addr)) (fp : List Addr), PE (X.blk s H scope (compEnvC scope cl C X.env) fp) elt te) → PE X e (tLc wi g' tt te (own.map (·.2))))
    (hi : EI c X tg iter fi) (hks : ∀ i ∈ ks, i ∈ own.map (·.2))
    (hg : ∀ H0 F0 io (s : Shared) (H : Hp) (C : Addr) (cl : List (Str × Addr)) (fp : List Addr), EG (c.re H0 F0 io) (X.blk s H scope (compEnvC scope cl C X.env) fp) tg g ks)
    (ht : ∀ H0 F0 io (s : Shared) (H : Hp) (C : Addr) (cl : List (Str × Addr)) (fp : List Addr), ETs (c.re H0 F0 io) (X.blk s H scope (compEnvC scope cl C X.env) fp) ifs t)
    (he : ∀ H0 F0 io (s : Shared) (H : Hp) (C : Addr) (cl : List (Str × Addr)) (fp : List Addr), EO (c.re H0 F0 io) (X.blk s H scope (compEnvC scope cl C X.env) fp) elt f) :
    EF c X e (sComp fi g t f (own.map (·.2))) :=
  ⟨pe_imp (h hi.pi (fun s H C cl fp => any_g fun H0 F0 io => hg H0 F0 io s H C cl fp) (fun s H C cl fp => any_t fun H0 F0 io => ht H0 F0 io s H C cl fp) fun s H C cl fp => any_e fun H0 F0 io => he H0 F0 io s H C cl fp) fun _ _ _ hyp => comp_core hks hyp⟩
/-- x = [..] on one line, as the model stores it -/
theorem setlc_core {i : Nat} {st : Stmt} {G : SI} {S : SS} (hS : ∀ D σ H, rS c S D σ H → rF c G σ H fun x H1 => gName i x σ H1 D.nx) {tt : TE} (h : PS X st (tAsg tt (gName i))) (hG : ∀ σ H Q, rF c G σ H Q → tt σ H Q) : ES c X st S :=
  ⟨ps_imp h fun D σ H q => hG σ H _ (hS D σ H q)⟩
theorem frS {i : Nat} {G : SI} : ∀ D σ H, rS c (sAsg (sFr G) (gN i)) D σ H → rF c G σ H fun x H1 => gName i x σ H1 D.nx := fun D σ H ⟨F, ρ, fl, ρ', R, e, k⟩ => by
  unfold sAsg sFr at e
  cases e1 : G ρ with
  | none => simp [e1] at e
  | some p =>
    obtain ⟨ds, ρ1⟩ := p
    simp only [e1, gN, Option.map_some, Option.some.injEq, Prod.mk.injEq] at e
    obtain ⟨rfl, rfl⟩ := e
    refine ⟨F, ρ, ds, ρ1, R, e1, fun a H' F' s R' f' => ?_⟩
    obtain ⟨vs, hv, hd⟩ := f'.at_
    exact k _ H' _ (s.trans fun b o z => by rw [upd_ne (ne_of_none z f'.nf)]; exact z) ((R'.freeze f' hv).set (dp_frozen f'.nf hd))
theorem ownS {i : Nat} {G : SI} : ∀ D σ H, rS c (sOwn i G) D σ H → rF c G σ H fun x H1 => gName i x σ H1 D.nx := fun D σ H q => own_core i q
end
end
end PD

/-! Plain data: all(..), calls of built-ins, what is changed in place; the operations themselves -/
namespace PD
open PySem PySem.Spec PyProof.Rows L2 GxR LG

/-! ### all(..) -/
def allL (g : SG) (f : SE) (vs : List Nat) : List PyData → Ev → Option (Bool × Ev)
  | [], ρ => some (true, ρ)
  | d :: ds, ρ => match g d (wipeE ρ vs) with
    | none => none
    | some ρ1 => match f ρ1 with
      | some (.d (.bool true), ρ2) => allL g f vs ds ρ2
      | some (.d (.bool false), ρ2) => some (false, ρ2)
      | _ => none
def sAll (fi : SI) (g : SG) (f : SE) (vs : List Nat) : SE := fun ρ => match fi ρ with
  | none => none
  | some (items, ρ1) => if okWipe ρ1 vs then match allL g f vs items ρ1 with
      | some (b, ρ2) => some (.d (.bool b), restore (wipeE ρ2 vs) ρ1 vs)
      | none => none
    else none
section
variable {c : Co} {X : Cx} {e : Expr} {es : List Expr} {pos : Pos}
theorem Rl.tabbed {F H H' : Hp} {σ : L2.St} {ρ : Ev} {P : Addr} (R : Rl c F H σ ρ) (hP : P ∈ c.T) (t : Tabbed P H H') : Rl c F H' σ ρ := by
  have same : ∀ b, b ≠ P → H' b = H b := t.2
  refine R.call (Same.refl _) (fun b o e => ?_) (fun Q hQ => ⟨R.ft Q hQ, ?_⟩) (fun b o e hb => ?_) (fun _ _ h => h) R.tf
  · have nb : b ≠ P := fun z => by
      rw [z, R.ft P hP] at e
      cases e
    rw [same b nb]
    exact R.sub _ _ e
  · by_cases h : Q = P
    · rw [h]
      exact t.1
    · obtain ⟨ps, e, q⟩ := R.tb Q hQ
      exact ⟨ps, by rw [same Q h]; exact e, q⟩
  · rw [same b (fun z => hb (by rw [z]; exact hP))]
    exact e
theorem eo_all {elt tg iter : Expr} {scope : Scope} {own : List (Str × Nat)} {fi : SI} {g : SG} {ks : List Nat} {f : SE} {P : Addr} {k : Nat} (hP : P ∈ c.T)
    (h : ∀ {wi : TI} {g' : TG} {te : TE}, PI X tg iter wi → (∀ (s : Shared) (H : Hp) (A' : Around) (C : Addr) (code : Value) (fp : List Addr), PG (gcx X s H scope A' (gEnvOf X scope C code) fp) tg g') →
      (∀ (s : Shared) (H : Hp) (A' : Around) (C : Addr) (code : Value) (fp : List Addr), Room k A' → PE (gcx X s H scope A' (gEnvOf X scope C code) fp) elt te) → PE X e (tAllG wi g' te P (own.map (·.2))))
    (hi : EI c X tg iter fi)
    (hks : ∀ i ∈ ks, i ∈ own.map (·.2))
    (hg : ∀ (s : Shared) (H : Hp) (A' : Around) (C : Addr) (code : Value) (fp : List Addr), EG c (gcx X s H scope A' (gEnvOf X scope C code) fp) tg g ks)
    (he : ∀ (s : Shared) (H : Hp) (A' : Around) (C : Addr) (code : Value) (fp : List Addr), Room k A' → EO c (gcx X s H scope A' (gEnvOf X scope C code) fp) elt f) :
    EO c X e (sAll fi g f (own.map (·.2))) := by
  have h' := h hi.pi (fun s H A' C code fp => (hg s H A' C code fp).pg) (fun s H A' C code fp hr => (he s H A' C code fp hr).pe)
  generalize hvs : own.map (·.2) = vs at h' hks ⊢
  refine ⟨pe_imp h' fun σ H Q ⟨F, ρ, x, ρ', R, e, kk⟩ => ?_⟩
  unfold sAll at e
  cases e1 : fi ρ with
  | none => rw [e1] at e; cases e
  | some p =>
    obtain ⟨items, ρ1⟩ := p
    rw [e1] at e
    dsimp only at e
    by_cases okw : okWipe ρ1 vs = true
    · rw [if_pos okw] at e
      cases e2 : allL g f vs items ρ1 with
      | none => rw [e2] at e; cases e
      | some q =>
        obtain ⟨b, ρe⟩ := q
        rw [e2] at e
        cases e
        refine ⟨F, ρ, items, ρ1, R, e1, fun J H1 F1 s1 R1 wk => ⟨R1.tb P hP, fun H2 tb => ?_⟩⟩
        have R2 := R1.tabbed hP tb
        have fin : ∀ F2 H2 ρ2, Same F1 F2 → Rl c F2 H2 (L2.wipe σ vs) (wipeE ρ2 vs) → ρ2 = ρe → Q (.bl b) H2 := fun F2 H2 ρ2 s2 R2 e => by
          subst e
          exact kk (.bl b) H2 F2 (s1.trans s2) (R1.restore s2 okw R2) (.bl b)
        refine ⟨items.length, fun i H => ∃ F2 ρ2, Same F1 F2 ∧ Rl c F2 H (L2.wipe σ vs) (wipeE ρ2 vs) ∧ allL g f vs (items.drop i) ρ2 = some (b, ρe), ⟨F1, ρ1, Same.refl _, R2.wipe vs, e2⟩, ?_, ?_⟩
        · rintro i H3 hi ⟨F3, ρ3, s3, R3, e3⟩
          rw [List.drop_eq_getElem_cons hi] at e3
          have at_ : items[i]? = some items[i] := List.getElem?_eq_getElem hi
          obtain ⟨go, yl⟩ := wk.go i _ F3 H3 at_ s3 R3.sub
          refine ⟨go, fun x H4 hy => ?_⟩
          simp only [allL] at e3
          cases e4 : g items[i] (wipeE ρ3 vs) with
          | none => rw [e4] at e3; cases e3
          | some ρ4 =>
            rw [e4] at e3
            dsimp only at e3
            obtain ⟨F4, xt, dx⟩ := yl x H4 hy
            refine ⟨F4, wipeE ρ3 vs, _, ρ4, R3.xt xt, dx, e4, fun σ4 but R4 => ?_⟩
            have ew : L2.wipe σ4 vs = L2.wipe σ vs := wipe_but (fun j hj => (but.2 j fun z => hj (hks j z)).trans (wipe_out hj)) (but.1.trans (wipe_length σ vs))
            refine ⟨ew, ?_⟩
            obtain ⟨t, ρ5, e5, e6⟩ := bool_cases (f := f) (k1 := fun ρ2 => allL g f vs (items.drop (i + 1)) ρ2) (k2 := fun ρ2 => some (false, ρ2)) e3
            refine ⟨F4, ρ4, _, ρ5, R4, e5, fun v H6 F6 s6 R6 o6 => ?_⟩
            cases o6
            have R7 := R6.wipe vs
            rw [ew] at R7
            refine ⟨t, rfl, fun ht => ?_, fun ht => ?_⟩
            · subst ht
              exact ⟨F6, ρ5, s3.trans (xt.f.trans s6), R7, e6⟩
            · subst ht
              simp only [Bool.false_eq_true, if_false, Option.some.injEq, Prod.mk.injEq] at e6
              obtain ⟨rfl, rfl⟩ := e6
              exact fin F6 H6 ρ5 (s3.trans (xt.f.trans s6)) R7 rfl
        · rintro H3 ⟨F3, ρ3, s3, R3, e3⟩
          rw [List.drop_length] at e3
          simp only [allL, Option.some.injEq, Prod.mk.injEq] at e3
          obtain ⟨rfl, rfl⟩ := e3
          exact ⟨wk.stop F3 H3 s3 R3.sub, fin F3 H3 ρ3 s3 R3 rfl⟩
    · rw [if_neg okw] at e
      cases e

/-! ### built-ins by values -/
def allR (ρ : Ev) : List Ob → Option (List PyData)
  | [] => some []
  | x :: r => match res ρ x, allR ρ r with
    | some d, some ds => some (d :: ds)
    | _, _ => none
def VwAll (K : PySem.W.Frag) (F H : Hp) : List V → List PyData → Prop
  | [], [] => True
  | v :: vs, d :: ds => Vw K F H v d ∧ VwAll K F H vs ds
  | _, _ => False
theorem allR_ok {F H : Hp} {σ : L2.St} {ρ : Ev} (R : Rl c F H σ ρ) : ∀ {vs : List V} {xs : List Ob} {ds : List PyData}, ObsOk c F σ vs xs → allR ρ xs = some ds → VwAll c.K F H vs ds
  | [], [], _, _, e => by cases e; trivial
  | v :: vs, x :: xs, ds, h, e => by
    simp only [allR] at e
    cases e1 : res ρ x with
    | none => simp [e1] at e
    | some d =>
      cases e2 : allR ρ xs with
      | none => simp [e1, e2] at e
      | some r =>
        simp only [e1, e2, Option.some.injEq] at e
        subst e
        exact ⟨R.vw h.1 e1, allR_ok R h.2 e2⟩
  | [], _ :: _, _, h, _ => h.elim
  | _ :: _, [], _, h, _ => h.elim
def sN (f : List PyData → Option PyData) (fa : SA) : SE := fun ρ => match fa ρ with
  | some (xs, ρ1) => match allR ρ1 xs with
    | some ds => (f ds).map fun d => (.d d, ρ1)
    | none => none
  | none => none
def LNok (K : PySem.W.Frag) (r : List V → Hp → VK → Prop) (f : List PyData → Option PyData) : Prop :=
  ∀ (F H : Hp) (vs : List V) (ds : List PyData) (z : PyData) (Q : VK), Same F H → VwAll K F H vs ds → f ds = some z → (∀ v F' H', Xt F H F' H' → Dz K F' v z → Q v H') → r vs H Q
theorem eo_bn {r : List V → Hp → VK → Prop} {f : List PyData → Option PyData} {fa : SA} {ce : Expr} (h : ∀ {t : TA}, PA X es t → PE X ce (tCB r t)) (hl : LNok c.K r f) (ha : EA c X es fa) : EO c X ce (sN f fa) := by
  refine ⟨pe_imp (h ha.pa) fun σ H Q ⟨F, ρ, x, ρ', R, e, k⟩ => ?_⟩
  unfold sN at e
  cases e1 : fa ρ with
  | none => rw [e1] at e; cases e
  | some p =>
    obtain ⟨xs, ρ1⟩ := p
    rw [e1] at e
    dsimp only at e
    cases e2 : allR ρ1 xs with
    | none => rw [e2] at e; cases e
    | some ds =>
      rw [e2] at e
      dsimp only at e
      cases e3 : f ds with
      | none => rw [e3] at e; cases e
      | some d =>
        rw [e3] at e
        cases e
        exact ⟨F, ρ, xs, _, R, e1, fun vs H1 F1 s1 R1 o1 => hl F1 H1 vs ds d Q R1.sub (allR_ok R1 o1 e2) e3 fun v F' H' xt dv => k v H' F' (s1.trans xt.f) (R1.xt xt) dv⟩
/-- .. whose answer is a new list, nobody's yet -/
def sNF (f : List PyData → Option (List PyData)) (fa : SA) : SI := fun ρ => match fa ρ with
  | some (xs, ρ1) => match allR ρ1 xs with
    | some ds => (f ds).map fun d => (d, ρ1)
    | none => none
  | none => none
def LFok (K : PySem.W.Frag) (r : List V → Hp → VK → Prop) (f : List PyData → Option (List PyData)) : Prop :=
  ∀ (F H : Hp) (vs : List V) (ds z : List PyData) (Q : VK), Same F H → VwAll K F H vs ds → f ds = some z → (∀ p us, H p = none → DzAll K F us z → Q (.ref p) (upd H p (.lst us))) → r vs H Q
theorem ef_bn {r : List V → Hp → VK → Prop} {f : List PyData → Option (List PyData)} {fa : SA} {ce : Expr} (h : ∀ {t : TA}, PA X es t → PE X ce (tCB r t)) (hl : LFok c.K r f) (ha : EA c X es fa) : EF c X ce (sNF f fa) := by
  refine ⟨pe_imp (h ha.pa) fun σ H Q ⟨F, ρ, x, ρ', R, e, k⟩ => ?_⟩
  unfold sNF at e
  cases e1 : fa ρ with
  | none => rw [e1] at e; cases e
  | some p =>
    obtain ⟨xs, ρ1⟩ := p
    rw [e1] at e
    dsimp only at e
    cases e2 : allR ρ1 xs with
    | none => rw [e2] at e; cases e
    | some ds =>
      rw [e2] at e
      dsimp only at e
      cases e3 : f ds with
      | none => rw [e3] at e; cases e
      | some d =>
        rw [e3] at e
        cases e
        exact ⟨F, ρ, xs, _, R, e1, fun vs H1 F1 s1 R1 o1 => hl F1 H1 vs ds _ Q R1.sub (allR_ok R1 o1 e2) e3 fun p us hp hd => let ⟨R2, f2⟩ := R1.fresh hp hd; k p _ F1 s1 R2 f2⟩
/-- a two-place operation whose answer is a new list -/
def s2F (f : PyData → PyData → Option (List PyData)) (fa fb : SE) : SI := fun ρ => match fa ρ with
  | none => none
  | some (x, ρ1) => match fb ρ1 with
    | none => none
    | some (y, ρ2) => match res ρ2 x, res ρ2 y with
      | some d, some e => (f d e).map fun z => (z, ρ2)
      | _, _ => none
def L2F (K : PySem.W.Frag) (r : R2) (f : PyData → PyData → Option (List PyData)) : Prop :=
  ∀ (F H : Hp) (x y : V) (d e : PyData) (z : List PyData) (Q : VK), Same F H → Vw K F H x d → Vw K F H y e → f d e = some z → (∀ p us, H p = none → DzAll K F us z → Q (.ref p) (upd H p (.lst us))) → r x y H Q
theorem ef_op {a b : Expr} {fa fb : SE} {op : Operator} {r : R2} {f : PyData → PyData → Option (List PyData)} (ho : OpR X (binaryOp op) r) (hl : L2F c.K r f) (ha : EO c X a fa) (hb : EO c X b fb) : EF c X (.BinOp a op b pos) (s2F f fa fb) := by
  refine ⟨pe_imp (pe_op ho ha.pe hb.pe) fun σ H Q ⟨F, ρ, x, ρ', R, h, k⟩ => ?_⟩
  unfold s2F at h
  cases h1 : fa ρ with
  | none => rw [h1] at h; cases h
  | some p =>
    obtain ⟨u, ρ1⟩ := p
    rw [h1] at h
    dsimp only at h
    cases h2 : fb ρ1 with
    | none => rw [h2] at h; cases h
    | some q =>
      obtain ⟨v, ρ2⟩ := q
      rw [h2] at h
      dsimp only at h
      cases h3 : res ρ2 u with
      | none => rw [h3] at h; cases h
      | some d =>
        cases h4 : res ρ2 v with
        | none => rw [h3, h4] at h; cases h
        | some e' =>
          rw [h3, h4] at h
          dsimp only at h
          cases h5 : f d e' with
          | none => rw [h5] at h; cases h
          | some z =>
            rw [h5] at h
            cases h
            refine ⟨F, ρ, u, ρ1, R, h1, fun xv H1 F1 s1 R1 o1 => ⟨F1, ρ1, v, _, R1, h2, fun yv H2 F2 s2 R2 o2 => ?_⟩⟩
            exact hl F2 H2 xv yv d e' _ Q R2.sub (R2.vw (o1.same s2) h3) (R2.vw o2 h4) h5 fun p us hp hd => let ⟨R3, f3⟩ := R2.fresh hp hd; k p _ F2 (s1.trans s2) R3 f3
/-! ### range -/
theorem ei_rg1 {a : Expr} {fa : SA} {tg ce : Expr} (h : ∀ {t : TA}, PA X [a] t → PI X tg ce (iRng1 t)) (ha : EA c X [a] fa) : EI c X tg ce (sRg1 fa) := by
  refine ⟨⟨fun pins s σ H R I ⟨F, ρ, items, ρ', RR, e1, k⟩ => ?_⟩⟩
  unfold sRg1 at e1
  split at e1
  · rename_i n ρ1 e2
    split at e1
    · rename_i hn
      cases e1
      refine (h ha.pa).run pins s σ H R I ⟨F, ρ, _, _, RR, e2, fun vs H1 F1 s1 R1 o1 => ?_⟩
      match vs, o1 with
      | [v], ⟨o, _⟩ =>
        cases o
        have w : Wk c (Itr 0 (n - 0).toNat) F1 (rangeD 0 n) := wk_range
        rw [Int.sub_zero] at w
        exact ⟨n, rfl, by omega, by omega, k _ H1 F1 s1 R1 w⟩
    · cases e1
  · cases e1
theorem ei_rg2 {a b : Expr} {fa : SA} {tg ce : Expr} (h : ∀ {t : TA}, PA X [a, b] t → PI X tg ce (iRng2 t)) (ha : EA c X [a, b] fa) : EI c X tg ce (sRg2 fa) := by
  refine ⟨⟨fun pins s σ H R I ⟨F, ρ, items, ρ', RR, e1, k⟩ => ?_⟩⟩
  unfold sRg2 at e1
  split at e1
  · rename_i n m ρ1 e2
    split at e1
    · rename_i hn
      cases e1
      refine (h ha.pa).run pins s σ H R I ⟨F, ρ, _, _, RR, e2, fun vs H1 F1 s1 R1 o1 => ?_⟩
      match vs, o1 with
      | [v, w], ⟨o, o', _⟩ =>
        cases o
        cases o'
        exact ⟨n, m, rfl, ⟨by omega, by omega, by omega, by omega⟩, k _ H1 F1 s1 R1 wk_range⟩
    · cases e1
  · cases e1
/-! ### changed in place -/
def sApp (i : Nat) (f : SE) : SS := fun ρ => match cont? ρ i with
  | none => none
  | some _ => match f ρ with
    | some (.d y, ρ1) => match cont? ρ1 i with
      | some ds => if ds.length < 1000000 then some (.nx, setCont ρ1 i (ds ++ [y])) else none
      | none => none
    | _ => none
theorem cont_at {F H : Hp} {σ : L2.St} {ρ : Ev} {i : Nat} {rs : List PyData} (R : Rl c F H σ ρ) (e2 : cont? ρ i = some rs) : ∃ r ws, vAt σ i = some (.ref r) ∧ H r = some (.lst ws) ∧ DzAll c.K F ws rs ∧ F r = none ∧ r ∉ c.T := by
  unfold cont? at e2
  cases q : ρ[i]? with
  | none => rw [q] at e2; cases e2
  | some sl =>
    rw [q] at e2
    have ok := R.sl i sl q
    cases sl with
    | un => cases e2
    | fn n => cases e2
    | dat d => cases e2
    | dic kvs => cases e2
    | own es' =>
      cases e2
      obtain ⟨a, ws, z1, z2, z3, z4, z5, _⟩ := ok
      exact ⟨a, ws, z1, z2, z3, z4, z5⟩
    | io es' =>
      cases e2
      obtain ⟨a, ws, z0, z1, z2, z3, z4, z5⟩ := ok
      exact ⟨a, ws, z1, z2, z3, z4, z5⟩
theorem Rl.put {F H : Hp} {σ : L2.St} {ρ : Ev} {i : Nat} {rs rs' : List PyData} {r : Addr} {ws : List V} (R : Rl c F H σ ρ) (hc : cont? ρ i = some rs) (hv : vAt σ i = some (.ref r)) (fr : F r = none) (nT : r ∉ c.T) (hw : DzAll c.K F ws rs') : Rl c F (upd H r (.lst ws)) σ (setCont ρ i rs') := by
  refine R.callI hc hv (Same.refl _) (fun b o e => ?_) (fun P hP => ⟨R.ft P hP, ?_⟩) (fun b o e _ nb => ?_) upd_same hw fr (fun _ _ h => h) R.tf
  · rw [upd_ne (ne_of_none e fr)]
    exact R.sub _ _ e
  · obtain ⟨ps, e, t⟩ := R.tb P hP
    have n : P ≠ r := fun z => nT (by rw [← z]; exact hP)
    exact ⟨ps, by rw [upd_ne n]; exact e, t⟩
  · rw [upd_ne nb]
    exact e
theorem es_app (i : Nat) {f : SE} {st : Stmt} (hK : X.K = c.K) (h : ∀ {te : TE}, PE X e te → PS X st (tDrop (tBM X.K "list" rAppend (tVar i) (tCons te tNil)))) (he : EO c X e f) : ES c X st (sApp i f) := by
  refine ⟨ps_imp (h he.pe) fun D σ H ⟨F, ρ, fl, ρ', R, e, k⟩ => ?_⟩
  unfold sApp at e
  cases e0 : cont? ρ i with
  | none => rw [e0] at e; cases e
  | some rs0 =>
    rw [e0] at e
    dsimp only at e
    obtain ⟨r, ws, v0, v1, v2, v3, v4⟩ := cont_at R e0
    cases e1 : f ρ with
    | none => rw [e1] at e; cases e
    | some p =>
      obtain ⟨x, ρ1⟩ := p
      rw [e1] at e
      cases x with
      | s i => cases e
      | d y =>
        dsimp only at e
        cases e2 : cont? ρ1 i with
        | none => rw [e2] at e; cases e
        | some ds =>
          rw [e2] at e
          dsimp only at e
          split at e
          · rename_i hn
            cases e
            refine ⟨.ref r, vAt_eq v0, .inl ⟨rfl, ws, .inl (.inl v1)⟩, F, ρ, _, ρ1, R, e1, fun v H1 F1 s1 R1 o1 => ?_⟩
            obtain ⟨r1, ws1, w0, w1, w2, w3, w4⟩ := cont_at R1 e2
            rw [v0] at w0
            cases w0
            exact ⟨r, ws1, v, rfl, rfl, w1, by rw [dpAll_len w2]; exact Nat.lt_of_lt_of_le hn (by decide), k σ _ F1 s1 (R1.put e2 v0 w3 w4 (dpAll_app w2 (.cons o1 .nil)))⟩
          · cases e
def sSetIx (i : Nat) (fi fe : SE) : SS := fun ρ => match fe ρ with
  | some (.d y, ρ1) => match cont? ρ1 i with
    | none => none
    | some _ => match fi ρ1 with
      | some (.d (.int n), ρ2) => match cont? ρ2 i with
        | some ds => (ixN ds.length n).map fun j => (.nx, setCont ρ2 i (ds.set j y))
        | none => none
      | _ => none
  | _ => none
theorem es_setIx (i : Nat) {fi fe : SE} {st : Stmt} {ie : Expr} (h : ∀ {te ti : TE}, PE X e te → PE X ie ti → PS X st (tAsg te (gSub (tVar i) ti rSetL))) (he : EO c X e fe) (hi : EO c X ie fi) : ES c X st (sSetIx i fi fe) := by
  refine ⟨ps_imp (h he.pe hi.pe) fun D σ H ⟨F, ρ, fl, ρ', R, e, k⟩ => ?_⟩
  unfold sSetIx at e
  cases e1 : fe ρ with
  | none => rw [e1] at e; cases e
  | some p =>
    obtain ⟨x, ρ1⟩ := p
    rw [e1] at e
    cases x with
    | s i => cases e
    | d y =>
      dsimp only at e
      cases e2 : cont? ρ1 i with
      | none => rw [e2] at e; cases e
      | some rs1 =>
        rw [e2] at e
        dsimp only at e
        split at e
        · rename_i n ρ2 e3
          cases e4 : cont? ρ2 i with
          | none => rw [e4] at e; cases e
          | some ds =>
            rw [e4] at e
            dsimp only at e
            cases e5 : ixN ds.length n with
            | none => rw [e5] at e; cases e
            | some j =>
              rw [e5] at e
              cases e
              refine ⟨F, ρ, _, ρ1, R, e1, fun v H1 F1 s1 R1 o1 => ?_⟩
              obtain ⟨r, ws, v0, v1, v2, v3, v4⟩ := cont_at R1 e2
              refine ⟨.ref r, vAt_eq v0, F1, ρ1, _, ρ2, R1, e3, fun u H2 F2 s2 R2 o2 => ?_⟩
              cases o2
              obtain ⟨r2, ws2, w0, w1, w2, w3, w4⟩ := cont_at R2 e4
              rw [v0] at w0
              cases w0
              exact ⟨r, ws2, n, j, rfl, rfl, w1, by rw [dpAll_len w2]; exact e5, k σ _ F2 (s1.trans s2) (R2.put e4 v0 w3 w4 (dpAll_set j w2 (dp_same s2 o1)))⟩
        · cases e
/-! ### chains -/
theorem ch_use {r r' : R2} {f g : PyData → PyData → Option PyData} {fa fb fc : SE} (hl : L2ok c.K r f) (hl' : L2ok c.K r' g) {σ : L2.St} {H : Hp} {Q : VK} (h : rE c (sChain f g fa fb fc) σ H Q)
    (hq : ∀ H, Q (.bl false) H → True) : tChain r r' (rE c fa) (rE c fb) (rE c fc) σ H Q := by
  obtain ⟨F, ρ, x, ρ', R, e, k⟩ := h
  unfold sChain at e
  cases h1 : fa ρ with
  | none => rw [h1] at e; cases e
  | some p =>
    obtain ⟨u, ρ1⟩ := p
    rw [h1] at e
    dsimp only at e
    cases h2 : fb ρ1 with
    | none => rw [h2] at e; cases e
    | some q =>
      obtain ⟨v, ρ2⟩ := q
      rw [h2] at e
      dsimp only at e
      cases h3 : res ρ2 u with
      | none => rw [h3] at e; cases e
      | some d =>
        cases h4 : res ρ2 v with
        | none => rw [h3, h4] at e; cases e
        | some e' =>
          rw [h3, h4] at e
          dsimp only at e
          refine ⟨F, ρ, u, ρ1, R, h1, fun xv H1 F1 s1 R1 o1 => ⟨F1, ρ1, v, ρ2, R1, h2, fun yv H2 F2 s2 R2 o2 => ?_⟩⟩
          cases h5 : f d e' with
          | none => rw [h5] at e; cases e
          | some z =>
            rw [h5] at e
            cases z with
            | bool b =>
              cases b with
              | false =>
                cases e
                refine hl F2 H2 xv yv d e' _ _ R2.sub (R2.vw (o1.same s2) h3) (R2.vw o2 h4) h5 fun w F3 H3 xt dz => ?_
                cases dz
                exact ⟨false, rfl, by
                  simp only [Bool.false_eq_true, if_false]
                  exact k _ H3 F3 (s1.trans (s2.trans xt.f)) (R2.xt xt) (.bl false)⟩
              | true =>
                dsimp only at e
                refine hl F2 H2 xv yv d e' _ _ R2.sub (R2.vw (o1.same s2) h3) (R2.vw o2 h4) h5 fun w F3 H3 xt dz => ?_
                cases dz
                refine ⟨true, rfl, ?_⟩
                simp only [if_true]
                cases h6 : fc ρ2 with
                | none => rw [h6] at e; cases e
                | some q =>
                  obtain ⟨z, ρ3⟩ := q
                  rw [h6] at e
                  dsimp only at e
                  cases h7 : res ρ3 v with
                  | none => rw [h7] at e; cases e
                  | some e2 =>
                    cases h8 : res ρ3 z with
                    | none => rw [h7, h8] at e; cases e
                    | some e3 =>
                      rw [h7, h8] at e
                      dsimp only at e
                      cases h9 : g e2 e3 with
                      | none => rw [h9] at e; cases e
                      | some w =>
                        rw [h9] at e
                        cases e
                        refine ⟨F3, ρ2, z, _, R2.xt xt, h6, fun zv H4 F4 s4 R4 o4 => ?_⟩
                        exact hl' F4 H4 yv zv e2 e3 _ Q R4.sub (R4.vw (o2.same (xt.f.trans s4)) h7) (R4.vw o4 h8) h9 fun w' F5 H5 xt5 d5 => k w' H5 F5 (s1.trans (s2.trans (xt.f.trans (s4.trans xt5.f)))) (R4.xt xt5) d5
            | _ => cases e
theorem eo_chain {a b d : Expr} {fa fb fd : SE} {op op' : CmpOp} {r r' : R2} {f g : PyData → PyData → Option PyData} (ho : OpR X (compareOp op) r) (ho' : OpR X (compareOp op') r') (hl : L2ok c.K r f) (hl' : L2ok c.K r' g) (ha : EO c X a fa) (hb : EO c X b fb) (hd : EO c X d fd)
    (hm : lastMarks [op, op'] [b, d] = false := by with_unfolding_all rfl) : EO c X (.Compare a [op, op'] [b, d] pos) (sChain f g fa fb fd) :=
  ⟨pe_imp (pe_chain ho ho' ha.pe hb.pe hd.pe hm) fun _ _ _ h => ch_use hl hl' h fun _ _ => trivial⟩
theorem et_chain {a b d : Expr} {fa fb fd : SE} {op op' : CmpOp} {r r' : R2} {f g : PyData → PyData → Option PyData} (ho : OpR X (compareOp op) r) (ho' : OpR X (compareOp op') r') (hl : L2ok c.K r f) (hl' : L2ok c.K r' g) (ha : EO c X a fa) (hb : EO c X b fb) (hd : EO c X d fd)
    (hm : lastMarks [op, op'] [b, d] = false := by with_unfolding_all rfl) : ET c X (.Compare a [op, op'] [b, d] pos) (toT (sChain f g fa fb fd)) :=
  ⟨pt_imp (pt_chain ho ho' ha.pe hb.pe hd.pe hm) fun _ _ _ h => ch_use hl hl' (rT_toT h) fun _ _ => trivial⟩
end
end PD

/-! Plain data: the operations -/
namespace PD
open PySem PySem.Spec PyProof.Rows L2 GxR LG

theorem opr_or {X : Cx} {f : Value → Value → Sem Value} {r r' : R2} (h : OpR X f r) (h' : OpR X f r') : OpR X f (fun x y H Q => r x y H Q ∨ r' x y H Q) := by
  intro pins s σ H x y v u Q I rx ry q
  rcases q with q | q
  · exact h pins s σ H x y v u Q I rx ry q
  · exact h' pins s σ H x y v u Q I rx ry q
theorem callr_or {X : Cx} {f : Value} {r r' : List V → Hp → VK → Prop} (h : CallR X f r) (h' : CallR X f r') : CallR X f (fun xs H Q => r xs H Q ∨ r' xs H Q) := by
  intro pins s σ H xs us Q I rx q
  rcases q with q | q
  · exact h pins s σ H xs us Q I rx q
  · exact h' pins s σ H xs us Q I rx q

section
variable {X : Cx} {K : PySem.W.Frag}
/-! ### ints, and what is added -/
def fAdd : PyData → PyData → Option PyData
  | .int i, .int j => some (.int (i + j))
  | .tuple xs, .tuple ys => if xs.length + ys.length ≤ 1000000 then some (.tuple (xs ++ ys)) else none
  | .list xs, .list ys => if xs.length + ys.length ≤ 1000000 then some (.list (xs ++ ys)) else none
  | _, _ => none
theorem sqL_lst {F H : Hp} {x : V} {ds : List PyData} (h : Vw K F H x (.list ds)) (s : Same F H) (w : ∀ a vs, x = .ref a → SqL K H a vs → DzAll K F vs ds → H a = some (.lst vs) ∨ True) : True := trivial
/-- a list that is tracked as such -/
def Lst (H : Hp) : V → Prop
  | .ref a => ∃ vs, H a = some (.lst vs)
  | _ => False
def rAddA (K : PySem.W.Frag) : R2 := fun x y H Q => (rI0 fun i j => .int (i + j)) x y H Q ∨ rCatF K x y H Q
theorem op_addA : OpR X (binaryOp .Add) (rAddA X.K) := opr_or op_add op_catF
def fAddT : PyData → PyData → Option PyData
  | .int i, .int j => some (.int (i + j))
  | .tuple xs, .tuple ys => if xs.length + ys.length ≤ 1000000 then some (.tuple (xs ++ ys)) else none
  | _, _ => none
theorem l2_add : L2ok K (rAddA K) fAddT := by
  intro F H x y d e z Q s hx hy hf k
  unfold fAddT at hf
  split at hf
  · rename_i i j
    cases hf
    exact .inl ⟨i, j, hx.int, hy.int, k _ F H (Xt.refl s) (.int _)⟩
  · rename_i xs ys
    split at hf
    · rename_i hn
      cases hf
      obtain ⟨a, vs, rfl, ha, hva⟩ := hx.tup s
      obtain ⟨b, us, rfl, hb, hvb⟩ := hy.tup s
      refine .inr ⟨a, b, vs, us, rfl, rfl, ha, hb, by rw [dpAll_len hva, dpAll_len hvb]; exact size_line hn, fun e => ?_, fun e1 e2 => ?_, fun e1 e2 p ob hp hob => ?_⟩
      · subst e
        cases hva
        refine k _ F H (Xt.refl s) ?_
        rcases hy with hy | ⟨_, _, _, _, h, _⟩ | ⟨_, _, _, _, h, _⟩
        · exact hy
        · cases h
        · cases h
      · subst e2
        cases hvb
        refine k _ F H (Xt.refl s) ?_
        rw [List.append_nil]
        rcases hx with hx | ⟨_, _, _, _, h, _⟩ | ⟨_, _, _, _, h, _⟩
        · exact hx
        · cases h
        · cases h
      · exact k _ _ _ (Xt.new s hp hob) (dp_newT (s.free hp) (dpAll_app hva hvb))
    · cases hf
  · cases hf
def fSub : PyData → PyData → Option PyData
  | .int i, .int j => some (.int (i - j))
  | _, _ => none
theorem l2_sub : L2ok K (rI0 fun i j => .int (i - j)) fSub := by
  intro F H x y d e z Q s hx hy hf k
  unfold fSub at hf
  split at hf
  · cases hf
    exact ⟨_, _, hx.int, hy.int, k _ F H (Xt.refl s) (.int _)⟩
  · cases hf
def big : Nat := 18446744073709551616
def fMul : PyData → PyData → Option PyData
  | .int i, .int j => if i.natAbs < big ∨ j.natAbs < big ∨ i.natAbs.log2 + j.natAbs.log2 < 1000000 then some (.int (i * j)) else none
  | _, _ => none
def rMulB : R2 := fun x y H Q => (rI CMul fun i j => .int (i * j)) x y H Q ∨ (rI CMulW fun i j => .int (i * j)) x y H Q
theorem op_mulB : OpR X (binaryOp .Mult) rMulB := opr_or op_mul op_mulW
theorem l2_mul : L2ok K rMulB fMul := by
  intro F H x y d e z Q s hx hy hf k
  unfold fMul at hf
  split at hf
  · split at hf
    · rename_i hc
      cases hf
      rcases hc with hc | hc | hc
      · exact .inl ⟨_, _, hx.int, hy.int, (by unfold CMul; unfold big at hc; omega), k _ F H (Xt.refl s) (.int _)⟩
      · exact .inl ⟨_, _, hx.int, hy.int, (by unfold CMul; unfold big at hc; omega), k _ F H (Xt.refl s) (.int _)⟩
      · exact .inr ⟨_, _, hx.int, hy.int, hc, k _ F H (Xt.refl s) (.int _)⟩
    · cases hf
  · cases hf
def fDiv : PyData → PyData → Option PyData
  | .int i, .int j => if 0 < j ∧ (j.natAbs < 1073741824 ∨ j.natAbs.log2 < 9000) then some (.int (i / j)) else none
  | _, _ => none
def rDivB : R2 := fun x y H Q => (rI CDiv fun i j => .int (i / j)) x y H Q ∨ (rI CDivW fun i j => .int (i / j)) x y H Q
theorem op_fdivB : OpR X (binaryOp .FloorDiv) rDivB := opr_or op_fdiv op_fdivW
theorem l2_div : L2ok K rDivB fDiv := by
  intro F H x y d e z Q s hx hy hf k
  unfold fDiv at hf
  split at hf
  · split at hf
    · rename_i hc
      cases hf
      obtain ⟨h0, hc⟩ := hc
      rcases hc with hc | hc
      · exact .inl ⟨_, _, hx.int, hy.int, ⟨h0, by omega⟩, k _ F H (Xt.refl s) (.int _)⟩
      · exact .inr ⟨_, _, hx.int, hy.int, ⟨h0, hc⟩, k _ F H (Xt.refl s) (.int _)⟩
    · cases hf
  · cases hf
def fMod : PyData → PyData → Option PyData
  | .int i, .int j => if 0 < j then some (.int (i % j)) else none
  | _, _ => none
theorem l2_mod : L2ok K (rI (fun _ j => 0 < j) fun i j => .int (i % j)) fMod := by
  intro F H x y d e z Q s hx hy hf k
  unfold fMod at hf
  split at hf
  · split at hf
    · rename_i hc
      cases hf
      exact ⟨_, _, hx.int, hy.int, hc, k _ F H (Xt.refl s) (.int _)⟩
    · cases hf
  · cases hf
def fPow : PyData → PyData → Option PyData
  | .int i, .int j => if 0 ≤ j ∧ j.natAbs ≤ 1000000 ∧ i.natAbs < 18446744073709551616 then some (.int (i ^ j.toNat)) else none
  | _, _ => none
theorem l2_pow : L2ok K (rI CPow fun i j => .int (i ^ j.toNat)) fPow := by
  intro F H x y d e z Q s hx hy hf k
  unfold fPow at hf
  split at hf
  · split at hf
    · rename_i hc
      cases hf
      exact ⟨_, _, hx.int, hy.int, ⟨hc.1, by omega, hc.2.2⟩, k _ F H (Xt.refl s) (.int _)⟩
    · cases hf
  · cases hf
/-! ### comparisons -/
def fLt : PyData → PyData → Option PyData
  | .int i, .int j => some (.bool (decide (i < j)))
  | _, _ => none
def fLe : PyData → PyData → Option PyData
  | .int i, .int j => some (.bool (decide (i ≤ j)))
  | _, _ => none
def fGt : PyData → PyData → Option PyData
  | .int i, .int j => some (.bool (decide (j < i)))
  | _, _ => none
def fGe : PyData → PyData → Option PyData
  | .int i, .int j => some (.bool (decide (j ≤ i)))
  | _, _ => none
theorem l2_lt : L2ok K (rI0 fun i j => .bl (decide (i < j))) fLt := by
  intro F H x y d e z Q s hx hy hf k
  unfold fLt at hf
  split at hf
  · cases hf
    exact ⟨_, _, hx.int, hy.int, k _ F H (Xt.refl s) (.bl _)⟩
  · cases hf
theorem l2_le : L2ok K (rI0 fun i j => .bl (decide (i ≤ j))) fLe := by
  intro F H x y d e z Q s hx hy hf k
  unfold fLe at hf
  split at hf
  · cases hf
    exact ⟨_, _, hx.int, hy.int, k _ F H (Xt.refl s) (.bl _)⟩
  · cases hf
theorem l2_gt : L2ok K (rI0 fun i j => .bl (decide (j < i))) fGt := by
  intro F H x y d e z Q s hx hy hf k
  unfold fGt at hf
  split at hf
  · cases hf
    exact ⟨_, _, hx.int, hy.int, k _ F H (Xt.refl s) (.bl _)⟩
  · cases hf
theorem l2_ge : L2ok K (rI0 fun i j => .bl (decide (j ≤ i))) fGe := by
  intro F H x y d e z Q s hx hy hf k
  unfold fGe at hf
  split at hf
  · cases hf
    exact ⟨_, _, hx.int, hy.int, k _ F H (Xt.refl s) (.bl _)⟩
  · cases hf
def fEq (d e : PyData) : Option PyData := if SeqAt.shaped d && SeqAt.shaped e then some (.bool (PyData.eqv d e)) else none
def fNe (d e : PyData) : Option PyData := if SeqAt.shaped d && SeqAt.shaped e then some (.bool (!PyData.eqv d e)) else none
theorem l2_eq : L2ok K (rEqD K) fEq := by
  intro F H x y d e z Q s hx hy hf k
  unfold fEq at hf
  split at hf
  · rename_i hc
    cases hf
    have hc := Bool.and_eq_true_iff.mp hc
    exact ⟨d, e, dz_L (hx.dp s) (SeqAt.canLay_of_shaped hc.1), dz_L (hy.dp s) (SeqAt.canLay_of_shaped hc.2), hc.1, hc.2, k _ F H (Xt.refl s) (.bl _)⟩
  · cases hf
theorem l2_ne : L2ok K (rNeD K) fNe := by
  intro F H x y d e z Q s hx hy hf k
  unfold fNe at hf
  split at hf
  · rename_i hc
    cases hf
    have hc := Bool.and_eq_true_iff.mp hc
    exact ⟨d, e, dz_L (hx.dp s) (SeqAt.canLay_of_shaped hc.1), dz_L (hy.dp s) (SeqAt.canLay_of_shaped hc.2), hc.1, hc.2, k _ F H (Xt.refl s) (.bl _)⟩
  · cases hf
/-- in a list of data, or in a tuple (list) of flat things -/
def flatD : PyData → Bool
  | .none => true
  | .bool _ => true
  | .int _ => true
  | .str _ => true
  | _ => false
def fIn : PyData → PyData → Option PyData
  | d, .list ds => if SeqAt.shaped d && SeqAt.shaped (.list ds) then some (.bool (ds.any fun z => PyData.eqv z d)) else none
  | d, .tuple ds => if flatD d && ds.all flatD then some (.bool (ds.any fun z => PyData.eqv z d)) else none
  | _, _ => none
def fNotIn : PyData → PyData → Option PyData
  | d, .list ds => if SeqAt.shaped d && SeqAt.shaped (.list ds) then some (.bool (!ds.any fun z => PyData.eqv z d)) else none
  | d, .tuple ds => if flatD d && ds.all flatD then some (.bool (!ds.any fun z => PyData.eqv z d)) else none
  | _, _ => none
def rInA (K : PySem.W.Frag) (neg : Bool) : R2 := fun x y H Q => (if neg then rNotInD K else rInD K) x y H Q ∨ rIn K neg x y H Q
theorem op_inA (hu : X.A.units + 65 < cLine) : OpR X (compareOp .In) (rInA X.K false) := opr_or (op_inD hu) op_in_seq
theorem op_notInA (hu : X.A.units + 65 < cLine) : OpR X (compareOp .NotIn) (rInA X.K true) := opr_or (op_notInD hu) op_notIn_seq
theorem flat_dp {F : Hp} {v : V} {d : PyData} (h : Dz K F v d) (f : flatD d = true) : flatV v = true ∧ ∀ {w : V} {e : PyData}, Dz K F w e → flatD e = true → eqV v w = PyData.eqv d e := by
  cases h with
  | non => exact ⟨rfl, fun h g => by cases h <;> first | rfl | cases g⟩
  | bl b => exact ⟨rfl, fun h g => by cases h <;> first | rfl | cases g⟩
  | int i => exact ⟨rfl, fun h g => by cases h <;> first | rfl | cases g⟩
  | str x => exact ⟨rfl, fun h g => by cases h <;> first | rfl | cases g⟩
  | lst _ _ => cases f
  | tup _ _ => cases f
  | dct _ _ => cases f
theorem flat_all {F : Hp} {v : V} {d : PyData} (h : Dz K F v d) (f : flatD d = true) : ∀ {vs : List V} {ds : List PyData}, DzAll K F vs ds → ds.all flatD = true → vs.all flatV = true ∧ inV v vs = ds.any fun z => PyData.eqv z d
  | _, _, .nil, _ => ⟨rfl, rfl⟩
  | _, _, .cons a b, g => by
    rw [List.all_cons, Bool.and_eq_true] at g
    obtain ⟨h1, h2⟩ := flat_all h f b g.2
    refine ⟨by rw [List.all_cons, (flat_dp a g.1).1, h1]; rfl, ?_⟩
    unfold inV at h2 ⊢
    rw [List.any_cons, List.any_cons, h2, (flat_dp a g.1).2 h f]
theorem Vw.flat {F H : Hp} {x : V} {d : PyData} (h : Vw K F H x d) (f : flatD d = true) : Dz K F x d := by
  rcases h with h | ⟨_, _, _, _, e, _⟩ | ⟨_, _, _, _, e, _⟩
  · exact h
  · rw [e] at f
    cases f
  · rw [e] at f
    cases f
theorem l2_in : L2ok K (rInA K false) fIn := by
  intro F H x y d e z Q s hx hy hf k
  unfold fIn at hf
  split at hf
  · rename_i ds
    split at hf
    · rename_i hc
      cases hf
      have hc := Bool.and_eq_true_iff.mp hc
      exact .inl ⟨d, ds, dz_L (hx.dp s) (SeqAt.canLay_of_shaped hc.1), dz_L (hy.dp s) (SeqAt.canLay_of_shaped hc.2), hc.1, hc.2, k _ F H (Xt.refl s) (.bl _)⟩
    · cases hf
  · rename_i ds
    split at hf
    · rename_i hc
      cases hf
      have hc := Bool.and_eq_true_iff.mp hc
      obtain ⟨a, vs, rfl, ha, hva⟩ := hy.tup s
      have dx := hx.flat hc.1
      obtain ⟨h1, h2⟩ := flat_all dx hc.1 hva hc.2
      refine .inr ⟨a, vs, rfl, .inr ha, (flat_dp dx hc.1).1, h1, ?_⟩
      rw [h2]
      exact k _ F H (Xt.refl s) (.bl _)
    · cases hf
  · cases hf
theorem l2_notIn : L2ok K (rInA K true) fNotIn := by
  intro F H x y d e z Q s hx hy hf k
  unfold fNotIn at hf
  split at hf
  · rename_i ds
    split at hf
    · rename_i hc
      cases hf
      have hc := Bool.and_eq_true_iff.mp hc
      exact .inl ⟨d, ds, dz_L (hx.dp s) (SeqAt.canLay_of_shaped hc.1), dz_L (hy.dp s) (SeqAt.canLay_of_shaped hc.2), hc.1, hc.2, k _ F H (Xt.refl s) (.bl _)⟩
    · cases hf
  · rename_i ds
    split at hf
    · rename_i hc
      cases hf
      have hc := Bool.and_eq_true_iff.mp hc
      obtain ⟨a, vs, rfl, ha, hva⟩ := hy.tup s
      have dx := hx.flat hc.1
      obtain ⟨h1, h2⟩ := flat_all dx hc.1 hva hc.2
      refine .inr ⟨a, vs, rfl, .inr ha, (flat_dp dx hc.1).1, h1, ?_⟩
      rw [h2]
      exact k _ F H (Xt.refl s) (.bl _)
    · cases hf
  · cases hf
/-! ### is -/
def rIsA : R2 := fun x y H Q => (y = .non ∧ Q (.bl (decide (x = .non))) H) ∨ rIsB x y H Q
def rIsNotA : R2 := fun x y H Q => (y = .non ∧ Q (.bl (!decide (x = .non))) H) ∨ rNotB x y H Q
theorem op_isA : OpR X (compareOp .Is) rIsA := opr_or op_isN op_isBl
theorem op_isNotA : OpR X (compareOp .IsNot) rIsNotA := opr_or op_notN op_notBl
def isNone : PyData → Bool
  | .none => true
  | _ => false
def fIs : PyData → PyData → Option PyData
  | d, .none => some (.bool (isNone d))
  | .bool a, .bool b => some (.bool (decide (a = b)))
  | _, _ => none
def fIsNot : PyData → PyData → Option PyData
  | d, .none => some (.bool (!isNone d))
  | .bool a, .bool b => some (.bool (!decide (a = b)))
  | _, _ => none
theorem non_dec {F H : Hp} {x : V} {d : PyData} (h : Vw K F H x d) : decide (x = .non) = isNone d := by
  rcases h with h | ⟨_, _, _, rfl, rfl, _⟩ | ⟨_, _, _, rfl, rfl, _⟩
  · cases h <;> rfl
  · rfl
  · rfl
theorem Vw.non {F H : Hp} {x : V} (h : Vw K F H x .none) : x = .non := by
  rcases h with h | ⟨_, _, _, rfl, e, _⟩ | ⟨_, _, _, rfl, e, _⟩
  · cases h
    rfl
  · cases e
  · cases e
theorem l2_is : L2ok K rIsA fIs := by
  intro F H x y d e z Q s hx hy hf k
  unfold fIs at hf
  split at hf
  · cases hf
    refine .inl ⟨hy.non, ?_⟩
    rw [non_dec hx]
    exact k _ F H (Xt.refl s) (.bl _)
  · cases hf
    exact .inr ⟨_, _, hx.bool, hy.bool, k _ F H (Xt.refl s) (.bl _)⟩
  · cases hf
theorem l2_isNot : L2ok K rIsNotA fIsNot := by
  intro F H x y d e z Q s hx hy hf k
  unfold fIsNot at hf
  split at hf
  · cases hf
    refine .inl ⟨hy.non, ?_⟩
    rw [non_dec hx]
    exact k _ F H (Xt.refl s) (.bl _)
  · cases hf
    exact .inr ⟨_, _, hx.bool, hy.bool, k _ F H (Xt.refl s) (.bl _)⟩
  · cases hf
/-! ### items, slices -/
def fIx : PyData → PyData → Option PyData
  | .list ds, .int i => atI ds i
  | .tuple ds, .int i => atI ds i
  | _, _ => none
theorem atI_dp {F : Hp} {vs : List V} {ds : List PyData} {i : Int} {z : PyData} (h : DzAll K F vs ds) (e : atI ds i = some z) : ∃ v, atI vs i = some v ∧ Dz K F v z := by
  unfold atI at e ⊢
  rw [dpAll_len h]
  cases q : ixN ds.length i with
  | none => rw [q] at e; cases e
  | some j =>
    rw [q] at e
    exact dpAll_at h e
theorem l2_ix : L2ok K (rIx K) fIx := by
  intro F H x y d e z Q s hx hy hf k
  unfold fIx at hf
  split at hf
  · obtain ⟨a, vs, rfl, ha, hva⟩ := hx.list s
    obtain ⟨v, e1, e2⟩ := atI_dp hva hf
    exact .inl ⟨a, vs, _, v, rfl, hy.int, ha, e1, k _ F H (Xt.refl s) e2⟩
  · obtain ⟨a, vs, rfl, ha, hva⟩ := hx.tup s
    obtain ⟨v, e1, e2⟩ := atI_dp hva hf
    exact .inr (.inl ⟨a, vs, _, v, rfl, hy.int, ha, e1, k _ F H (Xt.refl s) e2⟩)
  · cases hf
end
end PD

/-! enumerate of a tuple -/
namespace ENT
open PySem PySem.Spec PyProof.Rows L2
open AutoSeq1 (wpAny_loadPart')
theorem meets_new (l : Addr) (items : Array Value) (n : Nat) (dct : Option Addr) (sl : Array (Option Value)) :
    Meets (Builtin.«enumerate.__new__» ⟨[.type "enumerate", .ref l], []⟩) (fun _ R s => s.heap.get? l = some { cls := .type "tuple", dict := dct, data := .seq items n, slots := sl } ∧
      R (.ok (.ret (.ref (s.heap.push { cls := .type "tuple_iterator", data := .fields #[.ref l, .int 0 0] }).objs.size)))
        { s with heap := (s.heap.push { cls := .type "tuple_iterator", data := .fields #[.ref l, .int 0 0] }).push { cls := .type "enumerate", data := .fields #[.none, .bool false, .ref s.heap.objs.size, rawInt 0, .none, .none] } }) :=
  .of_wp fun prog w A R s h => by
    obtain ⟨hp, g, d, tk, os⟩ := s
    obtain ⟨ht, h⟩ := h
    have hsub := sub_enumerate
    have hT : Heap.IsTuple (Shared.heap ⟨hp, g, d, tk, os⟩) l items := ⟨_, ht, rfl, n, rfl⟩
    wp_walk using wpAny_loadPart' ht
    refine wpAny_stack_any fun st => wpAny_pure ?_
    split
    · rename_i c _ _ _ _ _
      cases hc : (c == Value.type "enumerate")
      · wp_walk using wpAny_loadPart' ht, wpAny_pyIter_tuple hT
        exact ⟨_, rfl, h⟩
      · wp_walk using wpAny_loadPart' ht, wpAny_pyIter_tuple hT
        exact ⟨_, rfl, h⟩
    · wp_walk using wpAny_loadPart' ht, wpAny_pyIter_tuple hT
      exact ⟨_, rfl, h⟩
section
variable {prog : Program} {w : World} {A : Around} {E : Value → Shared → Prop} {s : Shared}
theorem call_tup {l : Addr} {items : Array Value} {Q : Value → Shared → Prop} (hT : s.heap.IsTuple l items)
    (h : ∀ h', IsEnum h' (s.heap.objs.size + 1) s.heap.objs.size 0 .none → h'.IsTupleIter s.heap.objs.size l 0 →
      (∀ b o, s.heap.get? b = some o → h'.get? b = some o) → Q (.ref (s.heap.objs.size + 1)) { s with heap := h' }) :
    wpAny (model prog w) A (call (.type "enumerate") [.ref l]) Q E s := by
  obtain ⟨⟨c, dct, dt, sl⟩, hl, hc, n, hd⟩ := hT
  replace hc : c = .type "tuple" := hc
  replace hd : dt = .seq items n := hd
  subst hc hd
  refine callType_new F.called_enumerate (by decide) (F.typeCall_enumerate_1 _) (F.newCall_enumerate_1 _) (fun obj => F.args_object_init_2 obj _) F.entry_enumerate_new
    (meets_new l items n dct sl) ⟨hl, ?_⟩
  generalize hi : ({ cls := .type "tuple_iterator", data := .fields #[.ref l, .int 0 0] } : Obj) = oi
  generalize he : ({ cls := .type "enumerate", data := .fields #[.none, .bool false, .ref s.heap.objs.size, rawInt 0, .none, .none] } : Obj) = oe
  have hz : (s.heap.push oi).objs.size = s.heap.objs.size + 1 := Heap.size_push ..
  show _ ∧ _
  rw [hz]
  have eI : ((s.heap.push oi).push oe).get? (s.heap.objs.size + 1) = some oe := by
    have := Heap.get?_push_size (s.heap.push oi) (o := oe) (by rw [← he]; rfl)
    rw [hz] at this
    exact this
  have iI : ((s.heap.push oi).push oe).get? s.heap.objs.size = some oi := Heap.get?_push_of_some _ (Heap.get?_push_size _ (by rw [← hi]; rfl))
  have hE : IsEnum ((s.heap.push oi).push oe) (s.heap.objs.size + 1) s.heap.objs.size 0 .none := by
    show _ = _
    rw [eI, ← he]
  have hI : ((s.heap.push oi).push oe).IsTupleIter s.heap.objs.size l 0 := ⟨oi, iI, by rw [← hi], by rw [← hi]; rfl⟩
  exact ⟨⟨_, hE, rfl⟩, h _ hE hI fun b o x => Heap.get?_push_of_some _ (Heap.get?_push_of_some _ x)⟩
end
/-- the tuple at a, each item in a new pair -/
def IteT (K : PySem.W.Frag) (a : Addr) : It :=
  ⟨fun i H => ∃ (xs : List V) (x : V), SqT K H a xs ∧ xs[i]? = some x, fun i H v H' => ∃ T x ob, v = .ref T ∧ H T = none ∧ PD.PlT ob ∧ H' = upd H T (.frz ob (.tup [.int (i : Nat), x])) ∧ ∀ xs, SqT K H a xs → xs[i]? = some x, fun i H => ∃ xs : List V, SqT K H a xs ∧ xs.length ≤ i⟩
/-- the list at a, each item in a new pair -/
def IteL (K : PySem.W.Frag) (a : Addr) : It :=
  ⟨fun i H => ∃ (ys : List V) (y : V), SqL K H a ys ∧ ys[i]? = some y, fun i H v H' => ∃ T y ob, v = .ref T ∧ H T = none ∧ PD.PlT ob ∧ H' = upd H T (.frz ob (.tup [.int (i : Nat), y])) ∧ ∀ ys, SqL K H a ys → ys[i]? = some y, fun i H => ∃ ys : List V, SqL K H a ys ∧ ys.length ≤ i⟩
theorem turn {P : Program} {w : World} {K : PySem.W.Frag} {elts : List Expr} {kk : Nat} {tpos : Pos} (a e it : Addr) (hai : a ≠ it) (hae : a ≠ e) :
    Turn P w K (.Tuple elts kk tpos) (IteT K a) [e, it] e (fun i h => (∃ old, IsEnum h e it ((i : Nat) : Int) old) ∧ h.IsTupleIter it a i ∧ e ≠ it) where
  mem := by simp
  obj := fun i h st b hb => by
    obtain ⟨⟨old, he⟩, ⟨o, ho, hc, hd⟩, _⟩ := st
    rcases (show b = e ∨ b = it by simpa using hb) with z | z
    · rw [z]
      exact ⟨_, he, fun v q => nomatch q⟩
    · rw [z]
      exact ⟨o, ho, fun v q => by
        rw [hd] at q
        cases q⟩
  keep := fun i h h' st k => by
    obtain ⟨⟨old, he⟩, hi, hne⟩ := st
    exact ⟨⟨old, k e (by simp) _ he⟩, hi.at fun o q => k it (by simp) o q, hne⟩
  item := by
    intro X hP hw hK hc i pins s σ H E I hf st hg
    subst hP hw hK
    obtain ⟨⟨old, he⟩, hit, hne⟩ := st
    obtain ⟨xs, x, hq, hx⟩ := hg
    obtain ⟨its, rv, p, hz⟩ := I.tuple hq
    have p : s.heap.IsTuple a its.toArray := p
    obtain ⟨u, hu, ru⟩ := rv.get hx
    have hel : e < s.heap.objs.size := Heap.lt_size he
    have hil : it < s.heap.objs.size := by
      obtain ⟨_, q, _⟩ := hit
      exact Heap.lt_size q
    have ex : its.toArray[i]? = some u := by simpa using hu
    have lt : i < its.toArray.size := (Array.getElem?_eq_some_iff.mp ex).1
    refine wpAny_pyNext_enum_itemD (Draws.tuple (A := X.A.in1) (I.ok.hd hc) it a hai its.toArray) he ⟨hit, p⟩ lt hne (by simp only [List.mem_cons, List.not_mem_nil, or_false, not_or]; exact ⟨hne, fun z => hae z.symm⟩) fun y h' tk hy ho hst' hT hsz hk => ?_
    have ey : y = u := by
      have : its.toArray[i]? = some y := hy
      rw [ex] at this
      exact (Option.some.inj this).symm
    subst ey
    refine ⟨_, rfl, wpAny_letOwnedTupleGo_enum (s := { s with heap := h', toks := tk + 1 }) ho fun h'' he' sb => ?_⟩
    have hT2 : h''.get? s.heap.objs.size = some { cls := .type "tuple", data := .seq #[.int i tk, y] } := (sb.2 _ (Nat.ne_of_gt hel)).trans hT
    let ob : Obj := { cls := .type "tuple", data := .seq #[.int i tk, y] }
    let cell : HO := .frz ob (.tup [.int (i : Nat), x])
    have new : ObjOk X.prog X.w (upd H s.heap.objs.size cell) h'' s.heap.objs.size cell :=
      ⟨hT2, by show 2 ≤ sizeLine; decide, [.int i tk, y], .cons ⟨_, rfl⟩ (.cons ru .nil), ⟨_, hT2, rfl, _, rfl⟩⟩
    have I1 : Inv X pins σ (upd H s.heap.objs.size cell) { s with heap := h'', toks := tk + 1 } :=
      I.turnedNew (ch := [e, it]) (fun b ob hb q => (sb.2 b (fun z => hb (by simp [z]))).trans (hk b ob (fun z => hb (by simp [z])) (fun z => hb (by simp [z])) q)) hf (Nat.le_refl _) new
    refine ⟨.ref s.heap.objs.size, _, I1, rfl, ⟨_, x, ob, rfl, I.hok.fresh (Nat.le_refl _), ⟨rfl, rfl⟩, rfl, fun ys hy => by rw [I.tuple_inj hy hq]; exact hx⟩, ⟨⟨y, ?_⟩, hst'.1.at fun o q => (sb.2 it (Ne.symm hne)).trans q, hne⟩, fun b hb => ?_⟩
    · have e1 : ((i + 1 : Nat) : Int) = (i : Int) + 1 := by omega
      rw [e1]
      exact he'
    · have hb' : b < s.heap.objs.size := by
        rcases (show b = e ∨ b = it by simpa using hb) with z | z
        · rw [z]; exact hel
        · rw [z]; exact hil
      rw [upd_ne (Nat.ne_of_lt hb')]
      exact (hf b hb).1
  done := by
    intro X hP hw hK hc i pins s σ H E I hf st hg
    subst hP hw hK
    obtain ⟨⟨old, he⟩, hit, hne⟩ := st
    obtain ⟨xs, hq, hx⟩ := hg
    obtain ⟨its, rv, p, hz⟩ := I.tuple hq
    have p : s.heap.IsTuple a its.toArray := p
    obtain ⟨f0, f1, f2, f3, f4, f5⟩ := hf it (by simp)
    have hl := rv.length
    have hT : s.TypeIs (.ref e) "enumerate" := ⟨_, he, rfl⟩
    unfold pyNext
    refine wpAny_bind (wpAny_attempt (wpAny_callSpecial?_slot (name := Str.ofString "__next__") hT F.slot_enumerate_next
      (wpAny_call_entry F.slot_enumerate_next hT F.entry_enumerate_next ?_ (F.args_enumerate_next_1 _))))
    show wpAny _ _ (field (.ref e) 2 >>= _) _ _ _
    refine wpAny_bind (wpAny_field he rfl (x := .ref it) rfl ?_)
    refine wpAny_bind (wpAny_nextOf_tuple_end (I.ok.hd hc) hit p (by simp; omega) fun h' x he' hx' => ?_)
    obtain ⟨o, ho, hc'⟩ := hx'
    refine wpAny_bind (wpAny_isInstance (T := "StopIteration") (b := true) ⟨o, ho, hc'⟩ isSubtype_stop ?_)
    exact wpAny_pure ⟨rfl, I.turned (t' := s.toks) (fun b o hb q => he' b o hb q) f0 f1 f3 f4 f5⟩
  self := fun A i s Q E st h => by
    obtain ⟨⟨_, he⟩, _⟩ := st
    exact wpAny_pyIter_enum he h
def iEnumT (K : PySem.W.Frag) (ta : TA) : TI := fun σ H R => ta σ H fun vs H1 => ∃ a xs, vs = [.ref a] ∧ SqT K H1 a xs ∧ R (IteT K a) H1
theorem pi_enumT {X : Cx} {e : Expr} {ta : TA} {p pos tpos : Pos} {elts : List Expr} {kk : Nat} (hg : Gl X "enumerate") (hm : X.mg "enumerate" = none) (ha : PA X [e] ta) (hs : starEach [e] X.env = [(false, eval e X.env)] := by rfl) :
    PI X (.Tuple elts kk tpos) (.Call (.Name "enumerate" p) [e] [] pos) (iEnumT X.K ta) := by
  refine ⟨fun pins s σ H R I h => ?_⟩
  refine Call_ (ld_blt I hg hm boot_enumerate (PyProof.Rows.callWith_type1 (thn (ha.run pos pins s σ H _ I h) fun us s1 ⟨vs, H1, I1, r1, q1⟩ => ?_) hs rfl))
  obtain ⟨a, xs, ex, hq, q⟩ := q1
  subst ex
  cases r1 with
  | cons r rr =>
    cases rr
    cases r
    obtain ⟨its, rv, p', hz⟩ := I1.tuple hq
    have p' : s1.heap.IsTuple a its.toArray := p'
    have lt : a < s1.heap.objs.size := by
      obtain ⟨o, z, _⟩ := id p'
      exact Heap.lt_size z
    refine call_tup p' fun h' he hit hk => wpAny_pyIter_enum he ?_
    have I2 : Inv X pins σ H1 { s1 with heap := h' } := I1.kept (t' := s1.toks) hk
    refine ⟨s1.heap.objs.size + 1, [s1.heap.objs.size + 1, s1.heap.objs.size], _, _, H1, rfl, I2, turn a (s1.heap.objs.size + 1) s1.heap.objs.size (Nat.ne_of_lt lt) (Nat.ne_of_lt (Nat.lt_succ_of_lt lt)), ⟨⟨.none, he⟩, hit, Nat.succ_ne_self _⟩, fun b hb => ?_, q⟩
    have hle : s1.heap.objs.size ≤ b := by
      rcases (show b = s1.heap.objs.size + 1 ∨ b = s1.heap.objs.size by simpa using hb) with z | z
      · rw [z]; exact Nat.le_add_right _ _
      · rw [z]; exact Nat.le_refl _
    exact I1.fpOk hle (I1.hok.fresh hle)
/-- .. of a list -/
theorem turnL {P : Program} {w : World} {K : PySem.W.Frag} {elts : List Expr} {kk : Nat} {tpos : Pos} (a e it : Addr) (hai : a ≠ it) (hae : a ≠ e) :
    Turn P w K (.Tuple elts kk tpos) (IteL K a) [e, it] e (fun i h => (∃ old, IsEnum h e it ((i : Nat) : Int) old) ∧ h.IsListIter it a i ∧ e ≠ it) where
  mem := by simp
  obj := fun i h stt b hb => by
    obtain ⟨⟨old, hen⟩, ⟨o, ho, hc, hd⟩, _⟩ := stt
    rcases (show b = e ∨ b = it by simpa using hb) with z | z
    · rw [z]
      exact ⟨_, hen, fun v q => nomatch q⟩
    · rw [z]
      exact ⟨o, ho, fun v q => by
        rw [hd] at q
        cases q⟩
  keep := fun i h h' stt k => by
    obtain ⟨⟨old, hen⟩, hi, hne⟩ := stt
    exact ⟨⟨old, k e (by simp) _ hen⟩, hi.at fun o q => k it (by simp) o q, hne⟩
  item := by
    intro X hP hw hK hc i pins s σ H E I hf stt hg
    subst hP hw hK
    obtain ⟨⟨old, hen⟩, hit, hne⟩ := stt
    obtain ⟨ws, y, hsq, hgy⟩ := hg
    obtain ⟨vals, rvs, pl, _⟩ := I.list hsq
    obtain ⟨u, hu, ru⟩ := rvs.get hgy
    have enl : e < s.heap.objs.size := Heap.lt_size hen
    have itl : it < s.heap.objs.size := by
      obtain ⟨_, q, _⟩ := hit
      exact Heap.lt_size q
    have ex : vals.toArray[i]? = some u := by simpa using hu
    have lt : i < vals.toArray.size := (Array.getElem?_eq_some_iff.mp ex).1
    refine wpAny_pyNext_enum_itemD (Draws.list (A := X.A.in1) (I.ok.hd hc) it a hai vals.toArray) hen ⟨hit, pl.isList⟩ lt hne (by simp only [List.mem_cons, List.not_mem_nil, or_false, not_or]; exact ⟨hne, fun z => hae z.symm⟩) fun z h' tk hz ho hst' hT hsz hk => ?_
    have ez : z = u := by
      have : vals.toArray[i]? = some z := hz
      rw [ex] at this
      exact (Option.some.inj this).symm
    subst ez
    refine ⟨_, rfl, wpAny_letOwnedTupleGo_enum (s := { s with heap := h', toks := tk + 1 }) ho fun h2 hen' sb => ?_⟩
    let ob : Obj := { cls := .type "tuple", data := .seq #[.int i tk, z] }
    let cell : HO := .frz ob (.tup [.int (i : Nat), y])
    have at2 : h2.get? s.heap.objs.size = some ob := (sb.2 _ (Nat.ne_of_gt enl)).trans hT
    have new : ObjOk X.prog X.w (upd H s.heap.objs.size cell) h2 s.heap.objs.size cell :=
      ⟨at2, by show 2 ≤ sizeLine; decide, [.int i tk, z], .cons ⟨_, rfl⟩ (.cons ru .nil), ⟨_, at2, rfl, _, rfl⟩⟩
    have I1 : Inv X pins σ (upd H s.heap.objs.size cell) { s with heap := h2, toks := tk + 1 } :=
      I.turnedNew (ch := [e, it]) (fun b ob hb q => (sb.2 b (fun z => hb (by simp [z]))).trans (hk b ob (fun z => hb (by simp [z])) (fun z => hb (by simp [z])) q)) hf (Nat.le_refl _) new
    refine ⟨.ref s.heap.objs.size, _, I1, rfl, ⟨_, y, ob, rfl, I.hok.fresh (Nat.le_refl _), ⟨rfl, rfl⟩, rfl, fun ys hy => by rw [I.list_inj hy hsq]; exact hgy⟩, ⟨⟨z, ?_⟩, hst'.1.at fun o q => (sb.2 it (Ne.symm hne)).trans q, hne⟩, fun b hb => ?_⟩
    · rw [show ((i + 1 : Nat) : Int) = (i : Int) + 1 by omega]
      exact hen'
    · have below : b < s.heap.objs.size := by
        rcases (show b = e ∨ b = it by simpa using hb) with z | z
        · rw [z]; exact enl
        · rw [z]; exact itl
      rw [upd_ne (Nat.ne_of_lt below)]
      exact (hf b hb).1
  done := by
    intro X hP hw hK hc i pins s σ H E I hf stt hg
    subst hP hw hK
    obtain ⟨⟨old, hen⟩, hit, hne⟩ := stt
    obtain ⟨ws, hsq, hle⟩ := hg
    obtain ⟨vals, rvs, pl, _⟩ := I.list hsq
    obtain ⟨f0, f1, f2, f3, f4, f5⟩ := hf it (by simp)
    have hl := rvs.length
    exact wpAny_pyNext_enum_end (I.ok.hd hc) hen hit pl.isList (by simp; omega) fun h2 eb => ⟨rfl, I.turned (t' := s.toks) (fun b o hb q => eb b o hb q) f0 f1 f3 f4 f5⟩
  self := fun A i s Q E stt h => by
    obtain ⟨⟨_, hen⟩, _⟩ := stt
    exact wpAny_pyIter_enum hen h
def iEnumL (K : PySem.W.Frag) (ta : TA) : TI := fun σ H R => ta σ H fun vs H1 => ∃ a ys, vs = [.ref a] ∧ SqL K H1 a ys ∧ R (IteL K a) H1
theorem pi_enumL {X : Cx} {e : Expr} {ta : TA} {p pos tpos : Pos} {elts : List Expr} {kk : Nat} (hg : Gl X "enumerate") (hm : X.mg "enumerate" = none) (ha : PA X [e] ta) (hs : starEach [e] X.env = [(false, eval e X.env)] := by rfl) :
    PI X (.Tuple elts kk tpos) (.Call (.Name "enumerate" p) [e] [] pos) (iEnumL X.K ta) := by
  refine ⟨fun pins s σ H R I h => ?_⟩
  refine Call_ (ld_blt I hg hm boot_enumerate (PyProof.Rows.callWith_type1 (thn (ha.run pos pins s σ H _ I h) fun us s1 ⟨vs, H1, I1, r1, q1⟩ => ?_) hs rfl))
  obtain ⟨a, ys, eq, hsq, q⟩ := q1
  subst eq
  cases r1 with
  | cons r rr =>
    cases rr
    cases r
    obtain ⟨vals, rvs, pl, _⟩ := I1.list hsq
    have lt : a < s1.heap.objs.size := by
      obtain ⟨o, n, z, _⟩ := id pl
      exact Heap.lt_size z
    refine call_enumerate_list pl.isList fun h' hen hit hsz hk => wpAny_pyIter_enum hen ?_
    have I2 : Inv X pins σ H1 { s1 with heap := h' } := I1.kept (t' := s1.toks) hk
    refine ⟨s1.heap.objs.size + 1, [s1.heap.objs.size + 1, s1.heap.objs.size], _, _, H1, rfl, I2, turnL a (s1.heap.objs.size + 1) s1.heap.objs.size (Nat.ne_of_lt lt) (Nat.ne_of_lt (Nat.lt_succ_of_lt lt)), ⟨⟨.none, hen⟩, hit, Nat.succ_ne_self _⟩, fun b hb => ?_, q⟩
    have hle : s1.heap.objs.size ≤ b := by
      rcases (show b = s1.heap.objs.size + 1 ∨ b = s1.heap.objs.size by simpa using hb) with z | z
      · rw [z]; exact Nat.le_add_right _ _
      · rw [z]; exact Nat.le_refl _
    exact I1.fpOk hle (I1.hok.fresh hle)
end ENT

/-! Plain data: built-ins, slices, enumerate -/
namespace PD
open PySem PySem.Spec PyProof.Rows L2 GxR LG

section
variable {c : Co} {X : Cx} {K : PySem.W.Frag} {e : Expr} {es : List Expr} {pos : Pos}
theorem vw1 {F H : Hp} {vs : List V} {d : PyData} (h : VwAll K F H vs [d]) : ∃ v, vs = [v] ∧ Vw K F H v d := by
  match vs, h with
  | [v], ⟨h, _⟩ => exact ⟨v, rfl, h⟩
theorem vw2 {F H : Hp} {vs : List V} {d e : PyData} (h : VwAll K F H vs [d, e]) : ∃ v u, vs = [v, u] ∧ Vw K F H v d ∧ Vw K F H u e := by
  match vs, h with
  | [v, u], ⟨h, h', _⟩ => exact ⟨v, u, rfl, h, h'⟩
/-! ### len, sum, min, max, tuple, list, int, abs, divmod -/
def fLen : List PyData → Option PyData
  | [.list ds] => some (.int ds.length)
  | [.tuple ds] => some (.int ds.length)
  | _ => none
theorem ln_len : LNok K (fun xs H Q => ∃ p ys, xs = [.ref p] ∧ (SqL K H p ys ∨ SqT K H p ys) ∧ Q (.int ys.length) H) fLen := by
  intro F H vs ds z Q s hv hf k
  unfold fLen at hf
  split at hf
  · cases hf
    obtain ⟨v, rfl, h⟩ := vw1 hv
    obtain ⟨a, us, rfl, ha, hd⟩ := h.list s
    refine ⟨a, us, rfl, .inl ha, ?_⟩
    rw [dpAll_len hd]
    exact k _ F H (Xt.refl s) (.int _)
  · cases hf
    obtain ⟨v, rfl, h⟩ := vw1 hv
    obtain ⟨a, us, rfl, ha, hd⟩ := h.tup s
    refine ⟨a, us, rfl, .inr ha, ?_⟩
    rw [dpAll_len hd]
    exact k _ F H (Xt.refl s) (.int _)
  · cases hf
def fTupOf : List PyData → Option PyData
  | [.list ds] => some (.tuple ds)
  | [.tuple ds] => some (.tuple ds)
  | _ => none
theorem ln_tup : LNok K (rTupF K) fTupOf := by
  intro F H vs ds z Q s hv hf k
  unfold fTupOf at hf
  split at hf
  · cases hf
    obtain ⟨v, rfl, h⟩ := vw1 hv
    obtain ⟨a, us, rfl, ha, hd⟩ := h.list s
    exact ⟨a, us, rfl, .inl ⟨ha, fun p ob hp hob => k _ _ _ (Xt.new s hp hob) (dp_newT (s.free hp) hd)⟩⟩
  · cases hf
    obtain ⟨v, rfl, h⟩ := vw1 hv
    have h0 := h
    obtain ⟨a, us, rfl, ha, hd⟩ := h.tup s
    refine ⟨a, us, rfl, .inr ⟨ha, k _ F H (Xt.refl s) ?_⟩⟩
    rcases h0 with h0 | ⟨_, _, _, _, q, _⟩ | ⟨_, _, _, _, q, _⟩
    · exact h0
    · cases q
    · cases q
  · cases hf
def fListOf : List PyData → Option (List PyData)
  | [.list ds] => some ds
  | [.tuple ds] => some ds
  | _ => none
theorem lf_list : LFok K (fun xs H Q => ∃ p ys, xs = [.ref p] ∧ (SqL K H p ys ∨ SqT K H p ys) ∧ ∀ l, H l = none → Q (.ref l) (upd H l (.lst ys))) fListOf := by
  intro F H vs ds z Q s hv hf k
  unfold fListOf at hf
  split at hf
  · cases hf
    obtain ⟨v, rfl, h⟩ := vw1 hv
    obtain ⟨a, us, rfl, ha, hd⟩ := h.list s
    exact ⟨a, us, rfl, .inl ha, fun p hp => k p us hp hd⟩
  · cases hf
    obtain ⟨v, rfl, h⟩ := vw1 hv
    obtain ⟨a, us, rfl, ha, hd⟩ := h.tup s
    exact ⟨a, us, rfl, .inr ha, fun p hp => k p us hp hd⟩
  · cases hf
def intsOf : List PyData → Option (List Int)
  | [] => some []
  | .int i :: r => (intsOf r).map (i :: ·)
  | _ => none
theorem intsOf_eq : ∀ {ds : List PyData} {ns : List Int}, intsOf ds = some ns → ds = ns.map PyData.int
  | [], _, e => by cases e; rfl
  | .int i :: r, ns, e => by
    simp only [intsOf, Option.map_eq_some_iff] at e
    obtain ⟨m, e1, rfl⟩ := e
    rw [intsOf_eq e1]
    rfl
  | .none :: _, _, e => by cases e
  | .bool _ :: _, _, e => by cases e
  | .str _ :: _, _, e => by cases e
  | .list _ :: _, _, e => by cases e
  | .tuple _ :: _, _, e => by cases e
  | .dict _ :: _, _, e => by cases e
theorem intsOf_map (ns : List Int) : intsOf (ns.map PyData.int) = some ns := by
  induction ns with
  | nil => rfl
  | cons n r ih => simp only [List.map_cons, intsOf, ih, Option.map_some]
def fSum : List PyData → Option PyData
  | [.list ds] => (intsOf ds).map fun ns => .int ns.sum
  | _ => none
theorem ln_sum : LNok K (rSum K) fSum := by
  intro F H vs ds z Q s hv hf k
  unfold fSum at hf
  split at hf
  · rename_i ds
    obtain ⟨ns, e, rfl⟩ := Option.map_eq_some_iff.mp hf
    obtain ⟨v, rfl, h⟩ := vw1 hv
    obtain ⟨a, us, rfl, ha, hd⟩ := h.list s
    rw [intsOf_eq e] at hd
    rw [dpAll_ints hd] at ha
    exact ⟨a, ns, rfl, ha, k _ F H (Xt.refl s) (.int _)⟩
  · cases hf
/-- the greatest (least) of ints -/
def maxI : List Int → Option Int
  | [] => none
  | x :: r => some (r.foldl max x)
def minI : List Int → Option Int
  | [] => none
  | x :: r => some (r.foldl min x)
theorem foldl_max (r : List Int) : ∀ x : Int, x ≤ r.foldl max x ∧ (∀ y ∈ r, y ≤ r.foldl max x) ∧ (r.foldl max x = x ∨ r.foldl max x ∈ r) := by
  induction r with
  | nil => exact fun x => ⟨Int.le_refl _, fun y hy => (by cases hy), .inl rfl⟩
  | cons a r ih =>
    intro x
    obtain ⟨h1, h2, h3⟩ := ih (max x a)
    rw [List.foldl_cons]
    refine ⟨by omega, fun y hy => ?_, ?_⟩
    · rcases List.mem_cons.mp hy with rfl | hy
      · omega
      · exact h2 y hy
    · rcases h3 with h3 | h3
      · rw [h3]
        by_cases hx : a ≤ x
        · left; omega
        · right
          have : max x a = a := by omega
          rw [this]
          exact List.mem_cons_self ..
      · exact .inr (List.mem_cons_of_mem _ h3)
theorem foldl_min (r : List Int) : ∀ x : Int, r.foldl min x ≤ x ∧ (∀ y ∈ r, r.foldl min x ≤ y) ∧ (r.foldl min x = x ∨ r.foldl min x ∈ r) := by
  induction r with
  | nil => exact fun x => ⟨Int.le_refl _, fun y hy => (by cases hy), .inl rfl⟩
  | cons a r ih =>
    intro x
    obtain ⟨h1, h2, h3⟩ := ih (min x a)
    rw [List.foldl_cons]
    refine ⟨by omega, fun y hy => ?_, ?_⟩
    · rcases List.mem_cons.mp hy with rfl | hy
      · omega
      · exact h2 y hy
    · rcases h3 with h3 | h3
      · rw [h3]
        by_cases hx : x ≤ a
        · left; omega
        · right
          have : min x a = a := by omega
          rw [this]
          exact List.mem_cons_self ..
      · exact .inr (List.mem_cons_of_mem _ h3)
theorem maxI_spec {ns : List Int} {m : Int} (h : maxI ns = some m) : m ∈ ns ∧ ∀ y ∈ ns, y ≤ m := by
  cases ns with
  | nil => cases h
  | cons x r =>
    cases h
    obtain ⟨h1, h2, h3⟩ := foldl_max r x
    refine ⟨?_, fun y hy => ?_⟩
    · rcases h3 with h3 | h3
      · rw [h3]
        exact List.mem_cons_self ..
      · exact List.mem_cons_of_mem _ h3
    · rcases List.mem_cons.mp hy with rfl | hy
      · exact h1
      · exact h2 y hy
theorem minI_spec {ns : List Int} {m : Int} (h : minI ns = some m) : m ∈ ns ∧ ∀ y ∈ ns, m ≤ y := by
  cases ns with
  | nil => cases h
  | cons x r =>
    cases h
    obtain ⟨h1, h2, h3⟩ := foldl_min r x
    refine ⟨?_, fun y hy => ?_⟩
    · rcases h3 with h3 | h3
      · rw [h3]
        exact List.mem_cons_self ..
      · exact List.mem_cons_of_mem _ h3
    · rcases List.mem_cons.mp hy with rfl | hy
      · exact h1
      · exact h2 y hy
/-- max of a tuple of ints -/
def rMaxT (K : PySem.W.Frag) : List V → Hp → VK → Prop := fun vs H Q => ∃ (a : Addr) (ns : List Int), vs = [V.ref a] ∧ SqT K H a (ns.map V.int) ∧ 0 < ns.length ∧ ∀ m, m ∈ ns → (∀ y, y ∈ ns → y ≤ m) → Q (.int m) H
theorem intReads {h : Heap} : ∀ {us : List Value} {ns : List Int}, Vals (ns.map V.int) us → ReadsAll h us (ns.map PyData.int) []
  | _, [], .nil => .nil
  | _, n :: r, .cons a b => by
    obtain ⟨t, rfl⟩ := a
    exact .cons (as := []) (bs := []) (.int _ _) (intReads b)
theorem alikeInts (ns : List Int) : W.AlikeAll (ns.map PyData.int) := by
  refine ⟨fun x hx y hy => ?_, fun x hx => ?_⟩
  · obtain ⟨i, _, rfl⟩ := List.mem_map.mp hx
    obtain ⟨j, _, rfl⟩ := List.mem_map.mp hy
    simp [W.alike]
  · obtain ⟨i, _, rfl⟩ := List.mem_map.mp hx
    exact fun z => by cases z
theorem reads_int {h : Heap} {v : Value} {m : Int} {as : List Addr} (r : Reads h v (.int m) as) : ∃ t, v = .int m t := by
  cases r with
  | int i t => exact ⟨t, rfl⟩
theorem depthInts : ∀ ns : List Int, PyData.depthAll (ns.map PyData.int) = 0 := W.depth_ints
theorem cr_maxT (hc : X.calm = true) (hu : X.A.units + 64 < cLine) : CallR X (.builtin "max") (rMaxT X.K) := by
  intro pins s σ H xs us Q I rv h
  obtain ⟨a, ns, rfl, hs, hn, q⟩ := h
  obtain ⟨u, rfl, ru⟩ := rv.one
  cases (show u = Value.ref a from ru)
  obtain ⟨its, r, p, _⟩ := I.tuple hs
  cases ns with
  | nil => exact absurd hn (Nat.lt_irrefl _)
  | cons n r' =>
    refine W.max_tuple_data (x := .int n) (xs := r'.map PyData.int) (vs := its.toArray) (as := []) (I.ok.hd hc) (show s.heap.IsTuple a its.toArray from p) (by simpa using intReads r) (by simpa using alikeInts (n :: r')) (by
      have e : PyData.depthAll (.int n :: r'.map PyData.int) = 0 := depthInts (n :: r')
      rw [e]
      omega) fun i v h' tk bs hi rd hk => ?_
    rw [W.maxD_ints] at rd
    obtain ⟨t, rfl⟩ := reads_int rd
    obtain ⟨h1, h2, h3⟩ := foldl_max r' n
    refine ⟨.int (r'.foldl max n), H, I.kept (t' := tk) hk, ⟨t, rfl⟩, q _ ?_ fun y hy => ?_⟩
    · rcases h3 with h3 | h3
      · rw [h3]
        exact List.mem_cons_self ..
      · exact List.mem_cons_of_mem _ h3
    · rcases List.mem_cons.mp hy with rfl | hy
      · exact h1
      · exact h2 y hy
def rMaxA (K : PySem.W.Frag) : List V → Hp → VK → Prop := fun vs H Q => rMax K vs H Q ∨ rMaxT K vs H Q
theorem cr_maxA (hc : X.calm = true) (hu : X.A.units + 64 < cLine) : CallR X (.builtin "max") (rMaxA X.K) := callr_or (cr_max hc) (cr_maxT hc hu)
def fMax : List PyData → Option PyData
  | [.list ds] => match intsOf ds with
    | some ns => (maxI ns).map .int
    | none => none
  | [.tuple ds] => match intsOf ds with
    | some ns => (maxI ns).map .int
    | none => none
  | _ => none
theorem ln_max : LNok K (rMaxA K) fMax := by
  intro F H vs ds z Q s hv hf k
  unfold fMax at hf
  split at hf
  · rename_i ds
    cases e : intsOf ds with
    | none => rw [e] at hf; cases hf
    | some ns =>
      rw [e] at hf
      obtain ⟨m, e2, rfl⟩ := Option.map_eq_some_iff.mp hf
      obtain ⟨v, rfl, h⟩ := vw1 hv
      obtain ⟨a, us, rfl, ha, hd⟩ := h.list s
      rw [intsOf_eq e] at hd
      rw [dpAll_ints hd] at ha
      obtain ⟨m1, m2⟩ := maxI_spec e2
      refine .inl ⟨a, ns, rfl, ha, List.length_pos_of_mem m1, fun m' h1 h2 => ?_⟩
      have : m' = m := Int.le_antisymm (m2 _ h1) (h2 _ m1)
      rw [this]
      exact k _ F H (Xt.refl s) (.int _)
  · rename_i ds
    cases e : intsOf ds with
    | none => rw [e] at hf; cases hf
    | some ns =>
      rw [e] at hf
      obtain ⟨m, e2, rfl⟩ := Option.map_eq_some_iff.mp hf
      obtain ⟨v, rfl, h⟩ := vw1 hv
      obtain ⟨a, us, rfl, ha, hd⟩ := h.tup s
      rw [intsOf_eq e] at hd
      rw [dpAll_ints hd] at ha
      obtain ⟨m1, m2⟩ := maxI_spec e2
      refine .inr ⟨a, ns, rfl, ha, List.length_pos_of_mem m1, fun m' h1 h2 => ?_⟩
      have : m' = m := Int.le_antisymm (m2 _ h1) (h2 _ m1)
      rw [this]
      exact k _ F H (Xt.refl s) (.int _)
  · cases hf
def fMin1 : List PyData → Option PyData
  | [.list ds] => match intsOf ds with
    | some ns => (minI ns).map .int
    | none => none
  | _ => none
theorem ln_min : LNok K (rMin K) fMin1 := by
  intro F H vs ds z Q s hv hf k
  unfold fMin1 at hf
  split at hf
  · rename_i ds
    cases e : intsOf ds with
    | none => rw [e] at hf; cases hf
    | some ns =>
      rw [e] at hf
      obtain ⟨m, e2, rfl⟩ := Option.map_eq_some_iff.mp hf
      obtain ⟨v, rfl, h⟩ := vw1 hv
      obtain ⟨a, us, rfl, ha, hd⟩ := h.list s
      rw [intsOf_eq e] at hd
      rw [dpAll_ints hd] at ha
      obtain ⟨m1, m2⟩ := minI_spec e2
      refine ⟨a, ns, rfl, ha, List.length_pos_of_mem m1, fun m' h1 h2 => ?_⟩
      have : m' = m := Int.le_antisymm (h2 _ m1) (m2 _ h1)
      rw [this]
      exact k _ F H (Xt.refl s) (.int _)
  · cases hf
def fMin2 : List PyData → Option PyData
  | [.int i, .int j] => some (.int (if j < i then j else i))
  | _ => none
def fMax2 : List PyData → Option PyData
  | [.int i, .int j] => some (.int (if j > i then j else i))
  | _ => none
theorem ln_min2 : LNok K (fun xs H Q => ∃ i j, xs = [.int i, .int j] ∧ Q (.int (if j < i then j else i)) H) fMin2 := by
  intro F H vs ds z Q s hv hf k
  unfold fMin2 at hf
  split at hf
  · cases hf
    obtain ⟨v, u, rfl, h1, h2⟩ := vw2 hv
    exact ⟨_, _, by rw [h1.int, h2.int], k _ F H (Xt.refl s) (.int _)⟩
  · cases hf
theorem ln_max2 : LNok K (fun xs H Q => ∃ i j, xs = [.int i, .int j] ∧ Q (.int (if j > i then j else i)) H) fMax2 := by
  intro F H vs ds z Q s hv hf k
  unfold fMax2 at hf
  split at hf
  · cases hf
    obtain ⟨v, u, rfl, h1, h2⟩ := vw2 hv
    exact ⟨_, _, by rw [h1.int, h2.int], k _ F H (Xt.refl s) (.int _)⟩
  · cases hf
def fInt : List PyData → Option PyData
  | [.int i] => some (.int i)
  | [.bool b] => some (.int (if b then 1 else 0))
  | _ => none
theorem ln_int : LNok K (fun xs H Q => (∃ i, xs = [.int i] ∧ Q (.int i) H) ∨ ∃ k, xs = [.bl k] ∧ Q (.int (if k then 1 else 0)) H) fInt := by
  intro F H vs ds z Q s hv hf k
  unfold fInt at hf
  split at hf
  · cases hf
    obtain ⟨v, rfl, h⟩ := vw1 hv
    exact .inl ⟨_, by rw [h.int], k _ F H (Xt.refl s) (.int _)⟩
  · cases hf
    obtain ⟨v, rfl, h⟩ := vw1 hv
    exact .inr ⟨_, by rw [h.bool], k _ F H (Xt.refl s) (.int _)⟩
  · cases hf
def fAbs : List PyData → Option PyData
  | [.int i] => some (.int (if i < 0 then -i else i))
  | _ => none
theorem ln_abs : LNok K (fun xs H Q => ∃ i, xs = [.int i] ∧ Q (.int (if i < 0 then -i else i)) H) fAbs := by
  intro F H vs ds z Q s hv hf k
  unfold fAbs at hf
  split at hf
  · cases hf
    obtain ⟨v, rfl, h⟩ := vw1 hv
    exact ⟨_, by rw [h.int], k _ F H (Xt.refl s) (.int _)⟩
  · cases hf
def fDivmod : List PyData → Option PyData
  | [.int i, .int j] => if 0 < j ∧ j.natAbs < 1073741824 then some (.tuple [.int (i / j), .int (i % j)]) else none
  | _ => none
theorem ln_divmod : LNok K (fun xs H Q => ∃ i j, xs = [.int i, .int j] ∧ CDiv i j ∧ NewT Q H [.int (i / j), .int (i % j)]) fDivmod := by
  intro F H vs ds z Q s hv hf k
  unfold fDivmod at hf
  split at hf
  · split at hf
    · rename_i hc
      cases hf
      obtain ⟨v, u, rfl, h1, h2⟩ := vw2 hv
      exact ⟨_, _, by rw [h1.int, h2.int], ⟨hc.1, by omega⟩, fun p ob hp hob => k _ _ _ (Xt.new s hp hob) (dp_newT (s.free hp) (.cons (.int _) (.cons (.int _) .nil)))⟩
    · cases hf
  · cases hf
/-! ### sorted -/
def sortD (ds : List PyData) : List PyData := ds.mergeSort (W.dataLe false id)
def rSortD (K : PySem.W.Frag) : List V → Hp → VK → Prop := fun vs H Q => ∃ (F : Hp) (a : Addr) (xs : List V) (ds : List PyData), vs = [V.ref a] ∧ Same F H ∧ SqL K H a xs ∧ DzAll K F xs ds ∧ nodAll ds = true ∧ W.AllAlike ds ∧ W.Sortable ds ∧ (∀ d ∈ ds, d.depth ≤ 32) ∧
  ∀ p us, H p = none → DzAll K F us (sortD ds) → Q (.ref p) (upd H p (.lst us))
theorem dpAll_each {F H : Hp} {pins : List (Addr × Obj)} {σ : L2.St} {s : Shared} (I : Inv X pins σ H s) (sF : Same F H) : ∀ {xs : List V} {ds : List PyData} {us : List Value}, DzAll X.K F xs ds → nodAll ds = true → Vals xs us →
    W.EachIs (fun v d => ∃ x, RelV x v ∧ Dz X.K F x d) us ds ∧ W.EachIs (fun v d => ∃ as, Reads s.heap v d as) us ds
  | _, _, _, .nil, _, .nil => ⟨.nil, .nil⟩
  | _, _, _, .cons h hs, c, .cons r rs => by
    rw [nodAll] at c
    have c' := Bool.and_eq_true_iff.mp c
    obtain ⟨h1, h2⟩ := dpAll_each I sF hs c'.2 rs
    exact ⟨.cons ⟨_, r, h⟩ h1, .cons (L2.Dp.reads I _ _ _ (dz_N (dp_same sF h) c'.1) r) h2⟩
theorem each_dpAll {F : Hp} : ∀ {us : List Value} {ds : List PyData}, W.EachIs (fun v d => ∃ x, RelV x v ∧ Dz K F x d) us ds → ∃ xs, Vals xs us ∧ DzAll K F xs ds
  | _, _, .nil => ⟨[], .nil, .nil⟩
  | _, _, .cons ⟨x, r, h⟩ t => by
    obtain ⟨xs, h1, h2⟩ := each_dpAll t
    exact ⟨x :: xs, .cons r h1, .cons h h2⟩
theorem cr_sortD (hu : X.A.units + 64 < cLine) : CallR X (.builtin "sorted") (rSortD X.K) := by
  intro pins s σ H xs us Q I rv h
  obtain ⟨F, a, ys, ds, rfl, sF, hs, hd, hcl, hal, hk, hdep, q⟩ := h
  obtain ⟨u, rfl, ru⟩ := rv.one
  cases (show u = Value.ref a from ru)
  obtain ⟨its, r, p, hz⟩ := I.list hs
  obtain ⟨e1, e2⟩ := dpAll_each I sF hd hcl r
  have hl : ds.length ≤ sizeLine := by
    rw [← dpAll_len hd]
    exact hz
  refine W.sorted_data (R := fun v d => ∃ x, RelV x v ∧ Dz X.K F x d) (vs := its) (bs := ds) (enc := id) p.isList e1 e2 (by rw [List.map_id]; exact hal) (by rw [List.map_id]; exact hk) hl (fun b hb => by have := hdep b hb; show X.A.units + 2 + b.depth < cLine; omega) fun out ho eo => ?_
  obtain ⟨ws, w1, w2⟩ := each_dpAll eo
  obtain ⟨n, hn⟩ := sortedAll_at s.heap its out.toArray
  have hle : s.heap.objs.size ≤ s.heap.objs.size + 1 := Nat.le_succ _
  refine ⟨.ref (s.heap.objs.size + 1), upd H (s.heap.objs.size + 1) (.lst ws), I.laid (t' := s.toks) (fun b o e => sortedAll_old e) hle ⟨?_, out, n, w1, hn⟩, rfl, q _ ws (I.hok.fresh hle) w2⟩
  rw [w1.length, ho]
  exact hl
/-- are they of kinds that sorted orders -/
def sortOk (ds : List PyData) : Bool := ds.all (fun d => ds.all fun e => W.alike d e) && (ds.all (fun d => match d with | .tuple (_ :: _) => true | _ => false) || ds.all (fun d => match d with | .none => false | .tuple _ => false | _ => true)) && ds.all fun d => decide (d.depth ≤ 32)
theorem sortOk_use {ds : List PyData} (h : sortOk ds = true) : W.AllAlike ds ∧ W.Sortable ds ∧ ∀ d ∈ ds, d.depth ≤ 32 := by
  unfold sortOk at h
  rw [Bool.and_eq_true, Bool.and_eq_true, Bool.or_eq_true] at h
  obtain ⟨⟨h1, h2⟩, h3⟩ := h
  refine ⟨fun d hd e he => List.all_eq_true.mp (List.all_eq_true.mp h1 d hd) e he, ?_, fun d hd => of_decide_eq_true (List.all_eq_true.mp h3 d hd)⟩
  rcases h2 with h2 | h2
  · refine .inl fun d hd => ?_
    have q := List.all_eq_true.mp h2 d hd
    split at q
    · exact ⟨_, _, rfl⟩
    · cases q
  · refine .inr fun d hd => ?_
    have q := List.all_eq_true.mp h2 d hd
    split at q
    · cases q
    · cases q
    · rename_i n1 n2
      exact ⟨fun z => n1 z, fun xs z => n2 xs z⟩
mutual
theorem alike_nod : ∀ (d : PyData), W.alike d d = true → nod d = true
  | .none, _ => by simp [nod]
  | .bool _, _ => by simp [nod]
  | .int _, _ => by simp [nod]
  | .str _, _ => by simp [nod]
  | .list xs, h => by
    rw [nod]
    exact alikeAll_nod xs h
  | .tuple xs, h => by
    rw [nod]
    exact alikeAll_nod xs h
theorem alikeAll_nod : ∀ (xs : List PyData), W.alikeAll xs xs = true → nodAll xs = true
  | [], _ => by simp [nodAll]
  | x :: xs, h => by
    have h' := Bool.and_eq_true_iff.mp (by simpa [W.alikeAll] using h)
    rw [nodAll, alike_nod x h'.1, alikeAll_nod xs h'.2]
    rfl
end
theorem alike_nods : ∀ {ds : List PyData}, (∀ d ∈ ds, W.alike d d = true) → nodAll ds = true
  | [], _ => by simp [nodAll]
  | d :: ds, h => by
    rw [nodAll, alike_nod d (h d (List.mem_cons_self ..)), alike_nods fun e he => h e (List.mem_cons_of_mem _ he)]
    rfl
def fSorted : List PyData → Option (List PyData)
  | [.list ds] => if sortOk ds then some (sortD ds) else none
  | _ => none
theorem lf_sorted : LFok K (rSortD K) fSorted := by
  intro F H vs ds z Q s hv hf k
  unfold fSorted at hf
  split at hf
  · rename_i ds
    split at hf
    · rename_i ok
      cases hf
      obtain ⟨v, rfl, h⟩ := vw1 hv
      obtain ⟨a, us, rfl, ha, hd⟩ := h.list s
      obtain ⟨o1, o2, o3⟩ := sortOk_use ok
      exact ⟨F, a, us, ds, rfl, s, ha, hd, alike_nods fun d hd => o1 d hd d hd, o1, o2, o3, fun p ws hp hw => k p ws hp hw⟩
    · cases hf
  · cases hf
/-! ### isinstance -/
def tyName : PyData → String
  | .none => "NoneType"
  | .bool _ => "bool"
  | .int _ => "int"
  | .str _ => "str"
  | .list _ => "list"
  | .tuple _ => "tuple"
  | .dict _ => "dict"
/-- data that is no dict -/
def plD : PyData → Option PyData
  | .dict _ => none
  | d => some d
@[simp] theorem plD_none : plD .none = some .none := rfl
@[simp] theorem plD_bool (b : Bool) : plD (.bool b) = some (.bool b) := rfl
@[simp] theorem plD_int (i : Int) : plD (.int i) = some (.int i) := rfl
@[simp] theorem plD_str (x : Str) : plD (.str x) = some (.str x) := rfl
@[simp] theorem plD_list (xs : List PyData) : plD (.list xs) = some (.list xs) := rfl
@[simp] theorem plD_tuple (xs : List PyData) : plD (.tuple xs) = some (.tuple xs) := rfl
theorem plD_use {d e : PyData} (h : plD d = some e) : d = e ∧ ∀ k, e ≠ .dict k := by
  cases d <;> first | (cases h; exact ⟨rfl, fun k z => by cases z⟩) | cases h
theorem dp_ty {H : Hp} {x : V} {d : PyData} (h : Dz K H x d) (nd : ∀ k, d ≠ .dict k) : TyX K H x (.type (tyName d)) := by
  cases h with
  | dct _ _ => exact absurd rfl (nd _)
  | non => exact .base .non
  | bl b => exact .base (.bl b)
  | int i => exact .base (.int i)
  | str x => exact .base (.str x)
  | lst h _ =>
    rcases h with (h | ⟨o, h⟩) | ⟨o, its, n, h, hc, _⟩
    · exact .base (.lst h)
    · exact .base (.frz h)
    · exact .kList h hc
  | tup h _ =>
    rcases h with (h | ⟨o, h⟩) | ⟨o, its, n, h, hc, _⟩
    · exact .base (.tup h)
    · exact .fTuple h
    · exact .kTuple h hc
def isSub (a b : String) : Bool := a == b || (a == "bool" && b == "int")
def sIsi (T : String) (f : SE) : SE := fun ρ => match f ρ with
  | some (x, ρ1) => ((res ρ1 x).bind plD).map fun d => (.d (.bool (isSub (tyName d) T)), ρ1)
  | none => none
theorem kit_tab : ∀ a ∈ ["NoneType", "bool", "int", "str", "list", "tuple"], ∀ b ∈ ["int", "bool", "str", "list", "tuple"], kitB a b = some (isSub a b) := by decide +kernel
theorem tyName_mem (d : PyData) (hd : ∀ k, d ≠ .dict k) : tyName d ∈ ["NoneType", "bool", "int", "str", "list", "tuple"] := by
  cases d with
  | dict k => exact absurd rfl (hd k)
  | _ => simp [tyName]
theorem kit_all {T : String} (hT : T ∈ ["int", "bool", "str", "list", "tuple"]) (d : PyData) (hd : ∀ k, d ≠ .dict k) : PySem.W.kitOne K (.type (tyName d)) (.type T) = some (isSub (tyName d) T) :=
  kit_ty (kit_tab _ (tyName_mem d hd) _ hT)
theorem eo_isi {a ce : Expr} {T : String} {f : SE} (hK : X.K = c.K) (hT : T ∈ ["int", "bool", "str", "list", "tuple"]) (h : ∀ {te : TE}, PE X a te → PE X ce (tCB (rIsi X.K) (tCons te (tCons (tC (.ty T)) tNil)))) (ha : EO c X a f) : EO c X ce (sIsi T f) := by
  refine ⟨pe_imp (h ha.pe) fun σ H Q ⟨F, ρ, x, ρ', R, e, k⟩ => ?_⟩
  unfold sIsi at e
  cases e1 : f ρ with
  | none => rw [e1] at e; cases e
  | some p =>
    obtain ⟨y, ρ1⟩ := p
    rw [e1] at e
    obtain ⟨d, e2, e3⟩ := Option.map_eq_some_iff.mp e
    cases e3
    obtain ⟨d', e5, e4⟩ := Option.bind_eq_some_iff.mp e2
    obtain ⟨rfl, nd⟩ := plD_use e4
    refine ⟨F, ρ, y, _, R, e1, fun v H1 F1 s1 R1 o1 => ?_⟩
    have dd := (R1.vw o1 e5).dp R1.sub
    rw [hK]
    exact ⟨v, .ty T, _, _, _, rfl, .ty T, dp_ty dd nd, kit_all hT _ nd, k _ H1 F1 s1 R1 (.bl _)⟩
/-! ### slices -/
def cutD (xs : List PyData) (lo hi : Option Int) : List PyData := (xs.drop (HT.sIx xs.length 0 lo)).take (HT.sIx xs.length xs.length hi - HT.sIx xs.length 0 lo)
theorem cut_dp {F : Hp} {vs : List V} {ds : List PyData} {lo hi : Option Int} (h : DzAll K F vs ds) : DzAll K F (cutV vs lo hi) (cutD ds lo hi) := by
  unfold cutV cutD
  rw [dpAll_len h]
  exact dpAll_take _ (dpAll_drop _ h)
abbrev SP := Ev → Option (Option Int × Ev)
def pNone : SP := fun ρ => some (none, ρ)
def pSome (f : SE) : SP := fun ρ => match f ρ with
  | some (.d (.int i), ρ1) => some (some i, ρ1)
  | _ => none
def rP' (c : Co) (f : SP) : TO := fun σ H Q => ∃ F ρ o ρ', Rl c F H σ ρ ∧ f ρ = some (o, ρ') ∧ ∀ H' F', Same F F' → Rl c F' H' σ ρ' → Q o H'
structure EP' (c : Co) (X : Cx) (e : Option Expr) (f : SP) : Prop where
  po : PO X e (rP' c f)
theorem ep_none : EP' c X none pNone := ⟨⟨fun pins s σ H Q I ⟨F, ρ, o, ρ', R, e, k⟩ => by
  cases e
  exact po_none.run pins s σ H Q I (k H F (Same.refl _) R)⟩⟩
theorem ep_some {a : Expr} {f : SE} (h : EO c X a f) : EP' c X (some a) (pSome f) := ⟨⟨fun pins s σ H Q I ⟨F, ρ, o, ρ', R, e, k⟩ => by
  unfold pSome at e
  split at e
  · rename_i i ρ1 e1
    cases e
    exact (po_some h.pe).run pins s σ H Q I ⟨F, ρ, _, _, R, e1, fun v H' F' s' R' o => by
      cases o
      exact ⟨i, rfl, k H' F' s' R'⟩⟩
  · cases e⟩⟩
def sSl (f : PyData → Option Int → Option Int → Option PyData) (fa : SE) (fl fh : SP) : SE := fun ρ => match fa ρ with
  | none => none
  | some (x, ρ1) => match fl ρ1 with
    | none => none
    | some (l, ρ2) => match fh ρ2 with
      | none => none
      | some (h, ρ3) => match res ρ3 x with
        | some d => (f d l h).map fun z => (.d z, ρ3)
        | none => none
def fSl : PyData → Option Int → Option Int → Option PyData
  | .list ds, l, h => some (.list (cutD ds l h))
  | .tuple ds, l, h => some (.tuple (cutD ds l h))
  | _, _, _ => none
def rSlD (K : PySem.W.Frag) : V → Option Int → Option Int → Hp → VK → Prop := fun x l h H Q => rSlF K x l h H Q ∨ rSlL K x l h H Q
theorem sl_D : SlR X (rSlD X.K) := SlR.or sl_tupF sl_list
theorem cutD_all {ds : List PyData} {l h : Option Int} (e : HT.sIx ds.length 0 l = 0 ∧ HT.sIx ds.length ds.length h = ds.length) : cutD ds l h = ds := by
  unfold cutD
  rw [e.1, e.2, List.drop_zero, Nat.sub_zero, List.take_length]
theorem eo_slice {a ce : Expr} {lo hi : Option Expr} {fa : SE} {fl fh : SP} (hK : X.K = c.K) (h : ∀ {te : TE} {tl th : TO}, PE X a te → PO X lo tl → PO X hi th → PE X ce (tSl (rSlD X.K) te tl th)) (ha : EO c X a fa) (hl : EP' c X lo fl) (hh : EP' c X hi fh) : EO c X ce (sSl fSl fa fl fh) := by
  refine ⟨pe_imp (h ha.pe hl.po hh.po) fun σ H Q ⟨F, ρ, x, ρ', R, e, k⟩ => ?_⟩
  unfold sSl at e
  cases e1 : fa ρ with
  | none => rw [e1] at e; cases e
  | some p =>
    obtain ⟨y, ρ1⟩ := p
    rw [e1] at e
    dsimp only at e
    cases e2 : fl ρ1 with
    | none => rw [e2] at e; cases e
    | some p2 =>
      obtain ⟨l, ρ2⟩ := p2
      rw [e2] at e
      dsimp only at e
      cases e3 : fh ρ2 with
      | none => rw [e3] at e; cases e
      | some p3 =>
        obtain ⟨u, ρ3⟩ := p3
        rw [e3] at e
        dsimp only at e
        cases e4 : res ρ3 y with
        | none => rw [e4] at e; cases e
        | some d =>
          rw [e4] at e
          obtain ⟨z, e5, e6⟩ := Option.map_eq_some_iff.mp e
          cases e6
          refine ⟨F, ρ, y, ρ1, R, e1, fun v H1 F1 s1 R1 o1 => ⟨F1, ρ1, l, ρ2, R1, e2, fun H2 F2 s2 R2 => ⟨F2, ρ2, u, _, R2, e3, fun H3 F3 s3 R3 => ?_⟩⟩⟩
          have vw := R3.vw (o1.same (s2.trans s3)) e4
          have s123 := s1.trans (s2.trans s3)
          rw [hK]
          unfold fSl at e5
          split at e5
          · cases e5
            obtain ⟨p, vs, rfl, hs, hd⟩ := vw.list R3.sub
            exact .inr ⟨p, vs, rfl, hs, fun q hq => k _ _ _ (s123.trans (Xt.new R3.sub hq).f) (R3.xt (Xt.new R3.sub hq)) (dp_newL (R3.sub.free hq) (cut_dp hd))⟩
          · cases e5
            have vw0 := vw
            obtain ⟨p, vs, rfl, hs, hd⟩ := vw.tup R3.sub
            refine .inl ⟨p, vs, rfl, hs, fun w => ?_, fun _ q ob hq hob => k _ _ _ (s123.trans (Xt.new (o := .frz ob (.tup (cutV vs l u))) R3.sub hq hob).f) (R3.xt (Xt.new (o := .frz ob (.tup (cutV vs l u))) R3.sub hq hob)) (dp_newT (R3.sub.free hq) (cut_dp hd))⟩
            rw [dpAll_len hd] at w
            rw [cutD_all w] at k
            refine k _ H3 F3 s123 R3 ?_
            rcases vw0 with q | ⟨_, _, _, _, q, _⟩ | ⟨_, _, _, _, q, _⟩
            · exact q
            · cases q
            · cases q
          · cases e5
/-! ### enumerate -/
def enumD (ds : List PyData) : List PyData := ds.mapIdx fun i d => .tuple [.int (i : Nat), d]
def sEnum (f : SA) : SI := fun ρ => match f ρ with
  | some ([.d (.list ds)], ρ1) => some (enumD ds, ρ1)
  | some ([.d (.tuple ds)], ρ1) => some (enumD ds, ρ1)
  | _ => none
theorem enumD_at {ds : List PyData} {i : Nat} {d : PyData} (h : (enumD ds)[i]? = some d) : ∃ x, ds[i]? = some x ∧ d = .tuple [.int (i : Nat), x] := by
  unfold enumD at h
  rw [List.getElem?_mapIdx] at h
  obtain ⟨x, e1, e2⟩ := Option.map_eq_some_iff.mp h
  exact ⟨x, e1, e2.symm⟩
theorem enumD_len (ds : List PyData) : (enumD ds).length = ds.length := by
  unfold enumD
  rw [List.length_mapIdx]
theorem wk_enum {F : Hp} {a : Addr} {vs : List V} {ds : List PyData} (hK : X.K = c.K) (h : SqL c.K F a vs) (hs : DzAll c.K F vs ds) : Wk c (ENT.IteL X.K a) F (enumD ds) := by
  rw [hK]
  refine ⟨fun i d F2 H2 e s1 s2 => ?_, fun F2 H2 s1 s2 => ⟨vs, s2.seq (s1.seq h), by rw [enumD_len, dpAll_len hs]; exact Nat.le_refl _⟩⟩
  obtain ⟨x, e1, rfl⟩ := enumD_at e
  obtain ⟨v, ev, dv⟩ := dpAll_at hs e1
  refine ⟨⟨vs, v, s2.seq (s1.seq h), ev⟩, fun y H3 ⟨T, z, ob, q1, q2, qd, q3, q4⟩ => ?_⟩
  subst q1
  subst q3
  have := q4 vs (s2.seq (s1.seq h))
  rw [ev] at this
  cases this
  exact ⟨_, Xt.new s2 q2 qd, dp_newT (s2.free q2) (.cons (.int _) (.cons (dp_same s1 dv) .nil))⟩
theorem wk_enumT {F : Hp} {a : Addr} {vs : List V} {ds : List PyData} (hK : X.K = c.K) (h : SqT c.K F a vs) (hs : DzAll c.K F vs ds) : Wk c (ENT.IteT X.K a) F (enumD ds) := by
  rw [hK]
  refine ⟨fun i d F2 H2 e s1 s2 => ?_, fun F2 H2 s1 s2 => ⟨vs, sqT_same s2 (sqT_same s1 h), by rw [enumD_len, dpAll_len hs]; exact Nat.le_refl _⟩⟩
  obtain ⟨x, e1, rfl⟩ := enumD_at e
  obtain ⟨v, ev, dv⟩ := dpAll_at hs e1
  refine ⟨⟨vs, v, sqT_same s2 (sqT_same s1 h), ev⟩, fun y H3 ⟨T, z, ob, q1, q2, qd, q3, q4⟩ => ?_⟩
  subst q1
  subst q3
  have := q4 vs (sqT_same s2 (sqT_same s1 h))
  rw [ev] at this
  cases this
  exact ⟨_, Xt.new s2 q2 qd, dp_newT (s2.free q2) (.cons (.int _) (.cons (dp_same s1 dv) .nil))⟩
theorem ei_enum {a : Expr} {fa : SA} {tg ce : Expr} (hK : X.K = c.K) (h : ∀ {t : TA}, PA X [a] t → PI X tg ce (ENT.iEnumL X.K t)) (h' : ∀ {t : TA}, PA X [a] t → PI X tg ce (ENT.iEnumT X.K t)) (ha : EA c X [a] fa) : EI c X tg ce (sEnum fa) := by
  refine ⟨⟨fun pins s σ H R I ⟨F, ρ, items, ρ', RR, e1, k⟩ => ?_⟩⟩
  unfold sEnum at e1
  split at e1
  · rename_i ds ρ1 e2
    cases e1
    refine (h ha.pa).run pins s σ H R I ⟨F, ρ, _, _, RR, e2, fun vs H1 F1 s1 R1 o1 => ?_⟩
    match vs, o1 with
    | [v], ⟨o, _⟩ =>
      cases o with
      | lst hs hd => exact ⟨_, _, rfl, by rw [hK]; exact R1.sub.seq hs, k _ H1 F1 s1 R1 (wk_enum hK hs hd)⟩
  · rename_i ds ρ1 e2
    cases e1
    refine (h' ha.pa).run pins s σ H R I ⟨F, ρ, _, _, RR, e2, fun vs H1 F1 s1 R1 o1 => ?_⟩
    match vs, o1 with
    | [v], ⟨o, _⟩ =>
      cases o with
      | tup hs hd => exact ⟨_, _, rfl, by rw [hK]; exact sqT_same R1.sub hs, k _ H1 F1 s1 R1 (wk_enumT hK hs hd)⟩
  · cases e1
end
end PD

/-! Plain data: len(set(x)) of ints -/
namespace PD
open PySem PySem.Spec PyProof.Rows L2 GxR LG

def nubI : List Int → List Int
  | [] => []
  | x :: r => if x ∈ r then nubI r else x :: nubI r
theorem nubI_mem : ∀ (l : List Int) (k : Int), k ∈ nubI l ↔ k ∈ l
  | [], k => Iff.rfl
  | x :: r, k => by
    unfold nubI
    split
    · rename_i h
      rw [nubI_mem r k, List.mem_cons]
      exact ⟨.inr, fun q => q.elim (fun z => z ▸ h) id⟩
    · rw [List.mem_cons, List.mem_cons, nubI_mem r k]
theorem nubI_nodup : ∀ l : List Int, (nubI l).Nodup
  | [] => List.Pairwise.nil
  | x :: r => by
    unfold nubI
    split
    · exact nubI_nodup r
    · rename_i h
      exact List.nodup_cons.mpr ⟨fun z => h ((nubI_mem r x).mp z), nubI_nodup r⟩
theorem nodup_le : ∀ {a b : List Int}, a.Nodup → (∀ k ∈ a, k ∈ b) → a.length ≤ b.length
  | [], _, _, _ => Nat.zero_le _
  | x :: r, b, h, s => by
    have hx := s x (List.mem_cons_self ..)
    obtain ⟨h1, h2⟩ := List.nodup_cons.mp h
    have e := List.length_erase_of_mem hx
    have q : r.length ≤ (b.erase x).length := nodup_le h2 fun k hk => (List.mem_erase_of_ne (fun z : k = x => h1 (by rw [← z]; exact hk))).mpr (s k (List.mem_cons_of_mem _ hk))
    have p : 0 < b.length := List.length_pos_of_mem hx
    rw [List.length_cons]
    omega
theorem nodup_len {a b : List Int} (ha : a.Nodup) (hb : b.Nodup) (h : ∀ k, k ∈ a ↔ k ∈ b) : a.length = b.length :=
  Nat.le_antisymm (nodup_le ha fun k hk => (h k).mp hk) (nodup_le hb fun k hk => (h k).mpr hk)
theorem firstMet_nodup' (val : Nat → Int) : ∀ i, (firstMet val i).Nodup
  | 0 => by
    rw [firstMet_zero]
    exact List.Pairwise.nil
  | i + 1 => by
    rw [firstMet_succ]
    unfold step_dedup
    split
    · exact firstMet_nodup' val i
    · rename_i h
      refine List.nodup_append.mpr ⟨firstMet_nodup' val i, List.nodup_cons.mpr ⟨by simp, List.Pairwise.nil⟩, fun a ha b hb => ?_⟩
      have eb : b = val i := by simpa using hb
      intro z
      apply h
      rw [List.any_eq_true]
      exact ⟨a, ha, by rw [z, eb]; simp⟩
theorem firstMet_mem' (val : Nat → Int) (k : Int) : ∀ i, k ∈ firstMet val i ↔ ∃ j, j < i ∧ val j = k
  | 0 => by
    rw [firstMet_zero]
    exact ⟨fun h => (by cases h), fun ⟨j, h, _⟩ => absurd h (Nat.not_lt_zero j)⟩
  | i + 1 => by
    rw [firstMet_succ]
    unfold step_dedup
    split
    · rename_i h
      rw [firstMet_mem' val k i]
      constructor
      · exact fun ⟨j, h1, h2⟩ => ⟨j, Nat.lt_succ_of_lt h1, h2⟩
      · intro ⟨j, h1, h2⟩
        rcases Nat.lt_succ_iff_lt_or_eq.mp h1 with h1 | h1
        · exact ⟨j, h1, h2⟩
        · subst h1
          obtain ⟨a, ha, hb⟩ := List.any_eq_true.mp h
          have : a = val j := by simpa using hb
          rw [← h2, ← this]
          exact (firstMet_mem' val a j).mp ha
    · rw [List.mem_append, firstMet_mem' val k i, List.mem_singleton]
      constructor
      · intro h
        rcases h with ⟨j, h1, h2⟩ | h
        · exact ⟨j, Nat.lt_succ_of_lt h1, h2⟩
        · exact ⟨i, Nat.lt_succ_self i, h.symm⟩
      · intro ⟨j, h1, h2⟩
        rcases Nat.lt_succ_iff_lt_or_eq.mp h1 with h1 | h1
        · exact .inl ⟨j, h1, h2⟩
        · subst h1
          exact .inr h2.symm
theorem firstMet_len (ns : List Int) : (firstMet (fun i => ns.getD i 0) ns.length).length = (nubI ns).length := by
  refine nodup_len (firstMet_nodup' _ _) (nubI_nodup _) fun k => ?_
  rw [firstMet_mem', nubI_mem]
  constructor
  · intro ⟨j, h1, h2⟩
    rw [List.getD_eq_getElem?_getD, List.getElem?_eq_getElem h1] at h2
    rw [← h2]
    exact List.getElem_mem h1
  · intro h
    obtain ⟨j, hj, e⟩ := List.getElem_of_mem h
    exact ⟨j, hj, by rw [List.getD_eq_getElem?_getD, List.getElem?_eq_getElem hj]; exact e⟩
section
variable {c : Co} {X : Cx} {K : PySem.W.Frag} {e : Expr} {es : List Expr} {pos : Pos}
def tLenSet (K : PySem.W.Frag) (ta : TE) : TE := fun σ H Q => ta σ H fun x H1 => ∃ (l : Addr) (ns : List Int), x = .ref l ∧ (SqL K H1 l (ns.map V.int) ∨ SqT K H1 l (ns.map V.int)) ∧ ns.length ≤ 4000 ∧ Q (.int ((nubI ns).length : Nat)) H1
theorem pe_lenSet {a : Expr} {ta : TE} {p p2 q pos : Pos} (hg : Gl X "len") (hm : X.mg "len" = none) (hg2 : Gl X "set") (hm2 : X.mg "set" = none) (ha : PE X a ta) (hc : X.calm = true := by rfl)
    (na : starEach [a] X.env = (false, eval a X.env) :: starEach [] X.env := by rfl) : PE X (.Call (.Name "len" p) [.Call (.Name "set" p2) [a] [] q] [] pos) (tLenSet X.K ta) := by
  refine ⟨fun pins s σ H Q I h => ?_⟩
  refine Call_ (ld_blt I hg hm boot_len ?_)
  refine PyProof.Rows.callWith_builtin1 (PyProof.Rows.args_cons ?_ rfl) rfl rfl
  refine Call_ (ld_blt I hg2 hm2 boot_set ?_)
  refine PyProof.Rows.callWith_type1 (PyProof.Rows.args_cons (thn (ha.run pins s σ H _ I h) fun v s1 ⟨x, H1, I1, r1, q1⟩ => PyProof.Rows.args_nil ?_) na) na rfl
  obtain ⟨l, ns, rfl, hq, hl, q1⟩ := q1
  cases r1
  rcases hq with hq | hq
  · obtain ⟨its, r, pl, hz⟩ := I1.list hq
    have hlen : its.toArray.size = ns.length := by rw [List.size_toArray, ← r.length, List.length_map]
    refine call_set_list (I1.ok.hd hc) pl.isList (by simpa using RZ.intsAre_vals r) (by rw [hlen]; unfold scanBound; omega) fun h' tk hS hk => ?_
    refine PyProof.Rows.args_nil ?_
    rw [hlen] at hS
    have hn' := firstMet_len ns
    obtain ⟨o, es, ep, t, ho, hex, hd, _, _, _, hf, hn⟩ := hS
    have I2 : Inv X pins σ H1 { s1 with heap := h', toks := tk } := I1.kept fun b o e => hk b o (Heap.lt_size e) e
    have hle := firstMet_length_le (fun i => ns.getD i 0) ns.length
    exact call_len_set ho hex hd hf (by rw [hn] <;> omega) ⟨.int ((nubI ns).length : Nat), H1, I2.tok _, ⟨_, by rw [hn, hn']⟩, q1⟩
  · obtain ⟨its, r, pl, hz⟩ := I1.tuple hq
    have hlen : its.length = ns.length := by rw [← r.length, List.length_map]
    refine L2.call_set_tupI ns (I1.ok.hd hc) (show s1.heap.IsTuple l its.toArray from pl) (by simpa using RZ.intsAre_vals r) (by unfold scanBound; omega) fun h' tk n hS hcn hk => ?_
    refine PyProof.Rows.args_nil ?_
    have I2 : Inv X pins σ H1 { s1 with heap := h', toks := tk } := I1.kept fun b o e => hk b o e
    obtain ⟨o, es, ep, t, ho, hex, hd, _, hnd, hmem, _, hf, hn, _⟩ := hS
    have e1 : (es.toList.map _).length = (nubI ns).length := nodup_len hnd (nubI_nodup ns) fun k => by
      rw [← hmem k, decide_eq_true_eq, nubI_mem]
    have e2 : es.size = (nubI ns).length := by
      rw [List.length_map, Array.length_toList] at e1
      exact e1
    exact call_len_set ho hex hd hf (by omega) ⟨.int ((nubI ns).length : Nat), H1, I2.tok _, ⟨_, by rw [e2]⟩, q1⟩
def sLenSet (f : SE) : SE := fun ρ => match f ρ with
  | some (x, ρ1) => match res ρ1 x with
    | some (.list ds) => match intsOf ds with
      | some ns => if ns.length ≤ 4000 then some (.d (.int (nubI ns).length), ρ1) else none
      | none => none
    | some (.tuple ds) => match intsOf ds with
      | some ns => if ns.length ≤ 4000 then some (.d (.int (nubI ns).length), ρ1) else none
      | none => none
    | _ => none
  | none => none
theorem eo_lenSet {a ce : Expr} {f : SE} (hK : X.K = c.K) (h : ∀ {te : TE}, PE X a te → PE X ce (tLenSet X.K te)) (ha : EO c X a f) : EO c X ce (sLenSet f) := by
  refine ⟨pe_imp (h ha.pe) fun σ H Q ⟨F, ρ, x, ρ', R, e, k⟩ => ?_⟩
  unfold sLenSet at e
  cases e1 : f ρ with
  | none => rw [e1] at e; cases e
  | some p =>
    obtain ⟨y, ρ1⟩ := p
    rw [e1] at e
    dsimp only at e
    cases e2 : res ρ1 y with
    | none => rw [e2] at e; cases e
    | some d =>
      rw [e2] at e
      cases d with
      | list ds =>
        dsimp only at e
        cases e3 : intsOf ds with
        | none => rw [e3] at e; cases e
        | some ns =>
          rw [e3] at e
          dsimp only at e
          split at e
          · rename_i hl
            cases e
            refine ⟨F, ρ, y, _, R, e1, fun v H1 F1 s1 R1 o1 => ?_⟩
            obtain ⟨p, vs, rfl, hs, hd⟩ := (R1.vw o1 e2).list R1.sub
            rw [intsOf_eq e3] at hd
            rw [dpAll_ints hd] at hs
            rw [hK]
            exact ⟨p, ns, rfl, .inl hs, hl, k _ H1 F1 s1 R1 (.int _)⟩
          · cases e
      | tuple ds =>
        dsimp only at e
        cases e3 : intsOf ds with
        | none => rw [e3] at e; cases e
        | some ns =>
          rw [e3] at e
          dsimp only at e
          split at e
          · rename_i hl
            cases e
            refine ⟨F, ρ, y, _, R, e1, fun v H1 F1 s1 R1 o1 => ?_⟩
            obtain ⟨p, vs, rfl, hs, hd⟩ := (R1.vw o1 e2).tup R1.sub
            rw [intsOf_eq e3] at hd
            rw [dpAll_ints hd] at hs
            rw [hK]
            exact ⟨p, ns, rfl, .inr hs, hl, k _ H1 F1 s1 R1 (.int _)⟩
          · cases e
      | _ => cases e
end
end PD

/-! Plain data: list + list, parallel assignment, extend, count, list(range(..)) -/
namespace PD
open PySem PySem.Spec PyProof.Rows L2 GxR LG

section
variable {X : Cx} {K : PySem.W.Frag}
/-! ### list + list -/
def rCatL (K : PySem.W.Frag) : R2 := fun x y H Q => ∃ a b xs ys, x = .ref a ∧ y = .ref b ∧ SqL K H a xs ∧ SqL K H b ys ∧ xs.length + ys.length ≤ sizeLine ∧ ∀ p, H p = none → Q (.ref p) (upd H p (.lst (xs ++ ys)))
theorem op_catL : OpR X (binaryOp .Add) (rCatL X.K) := by
  intro pins s σ H x y v u Q I rx ry h
  obtain ⟨a, b, xs, ys, rfl, rfl, ha, hb, hz, q⟩ := h
  cases rx
  cases ry
  obtain ⟨its, r1, ⟨⟨cls, dd, data, sl⟩, n, ho, hc, hdn, hd⟩, hlen⟩ := I.list ha
  obtain ⟨its2, r2, ⟨⟨cls2, dd2, data2, sl2⟩, n2, ho2, hc2, hdn2, hd2⟩, hlen2⟩ := I.list hb
  simp only at hc hd hc2 hd2
  subst hc hd hc2 hd2
  have l1 := r1.length
  have l2 := r2.length
  refine concat_meets (T := "list") (id := "list.__add__") ⟨_, ho, rfl⟩ ⟨_, ho2, rfl⟩ (by kernel_rfl) (by kernel_rfl) PySem.F.slot_list_add PySem.F.entry_list_add (PySem.F.args_list_add_2 _ _)
    (list_addW a b its.toArray its2.toArray n n2 dd dd2 sl sl2 (by rw [List.size_toArray, List.size_toArray]; omega)) ⟨ho, ho2, ?_⟩
  have ea : its.toArray ++ its2.toArray = (its ++ its2).toArray := by simp
  rw [ea]
  exact ⟨.ref _, _, I.lnew (t' := s.toks) (r1.append r2) (by rw [List.length_append]; omega), rfl, q _ I.fresh⟩
def fCat : PyData → PyData → Option (List PyData)
  | .list xs, .list ys => if xs.length + ys.length ≤ 1000000 then some (xs ++ ys) else none
  | _, _ => none
theorem l2f_cat : L2F K (rCatL K) fCat := by
  intro F H x y d e z Q s hx hy hf k
  unfold fCat at hf
  split at hf
  · rename_i xs ys
    split at hf
    · rename_i hn
      cases hf
      obtain ⟨a, vs, rfl, ha, hva⟩ := hx.list s
      obtain ⟨b, us, rfl, hb, hvb⟩ := hy.list s
      exact ⟨a, b, vs, us, rfl, rfl, ha, hb, by rw [dpAll_len hva, dpAll_len hvb]; exact size_line hn, fun p hp => k p _ hp (dpAll_app hva hvb)⟩
    · cases hf
  · cases hf
def rAdd3 (K : PySem.W.Frag) : R2 := fun x y H Q => rAddA K x y H Q ∨ rCatL K x y H Q
theorem op_add3 : OpR X (binaryOp .Add) (rAdd3 X.K) := opr_or op_addA op_catL
theorem l2_add3 : L2ok K (rAdd3 K) fAdd := by
  intro F H x y d e z Q s hx hy hf k
  by_cases hl : ∃ xs ys, d = .list xs ∧ e = .list ys
  · obtain ⟨xs, ys, rfl, rfl⟩ := hl
    simp only [fAdd] at hf
    split at hf
    · rename_i hn
      cases hf
      obtain ⟨a, vs, rfl, ha, hva⟩ := hx.list s
      obtain ⟨b, us, rfl, hb, hvb⟩ := hy.list s
      exact .inr ⟨a, b, vs, us, rfl, rfl, ha, hb, by rw [dpAll_len hva, dpAll_len hvb]; exact size_line hn, fun p hp => k _ _ _ (Xt.new s hp) (dp_newL (s.free hp) (dpAll_app hva hvb))⟩
    · cases hf
  · refine .inl (l2_add F H x y d e z Q s hx hy ?_ k)
    rw [← hf]
    unfold fAdd fAddT
    cases d <;> cases e <;> first | rfl | exact absurd ⟨_, _, rfl, rfl⟩ hl
end

section
variable {c : Co} {X : Cx} {e : Expr} {es : List Expr} {pos : Pos}
/-! ### a, b = e1, e2 -/
def putDs : List Nat → List PyData → Ev → Option Ev
  | [], [], ρ => some ρ
  | i :: is, d :: ds, ρ => putDs is ds (ρ.set i (.dat d))
  | _, _, _ => none
def sPar (is : List Nat) (fa : SA) : SS := fun ρ => match fa ρ with
  | none => none
  | some (xs, ρ1) => match allD xs with
    | none => none
    | some ds => (putDs is ds ρ1).map fun ρ2 => (.nx, ρ2)
theorem es_par {i j : Nat} {fa : SA} {st : Stmt} (h : ∀ {t : TA}, PA X es t → PS X st (tPar i j t)) (ha : EA c X es fa) : ES c X st (sPar [i, j] fa) := by
  refine ⟨ps_imp (h ha.pa) fun D σ H ⟨F, ρ, fl, ρ', R, e, k⟩ => ?_⟩
  unfold sPar at e
  cases e1 : fa ρ with
  | none => rw [e1] at e; cases e
  | some p =>
    obtain ⟨xs, ρ1⟩ := p
    rw [e1] at e
    dsimp only at e
    cases e2 : allD xs with
    | none => rw [e2] at e; cases e
    | some ds =>
      rw [e2] at e
      dsimp only at e
      match ds, e2, e with
      | [d1, d2], e2, e =>
        cases e
        refine ⟨F, ρ, xs, _, R, e1, fun vs H1 F1 s1 R1 o1 => ?_⟩
        cases allD_ok o1 e2 with
        | cons a b => cases b with
          | cons a' b' => cases b' with
            | nil => exact ⟨_, _, rfl, k _ H1 F1 s1 ((R1.set a).set a')⟩
      | [], _, e => cases e
      | [_], _, e => cases e
      | _ :: _ :: _ :: _, _, e => cases e
theorem es_par3 {i j l : Nat} {fa : SA} {st : Stmt} (h : ∀ {t : TA}, PA X es t → PS X st (tPar3 i j l t)) (ha : EA c X es fa) : ES c X st (sPar [i, j, l] fa) := by
  refine ⟨ps_imp (h ha.pa) fun D σ H ⟨F, ρ, fl, ρ', R, e, k⟩ => ?_⟩
  unfold sPar at e
  cases e1 : fa ρ with
  | none => rw [e1] at e; cases e
  | some p =>
    obtain ⟨xs, ρ1⟩ := p
    rw [e1] at e
    dsimp only at e
    cases e2 : allD xs with
    | none => rw [e2] at e; cases e
    | some ds =>
      rw [e2] at e
      dsimp only at e
      match ds, e2, e with
      | [d1, d2, d3], e2, e =>
        cases e
        refine ⟨F, ρ, xs, _, R, e1, fun vs H1 F1 s1 R1 o1 => ?_⟩
        cases allD_ok o1 e2 with
        | cons a b => cases b with
          | cons a' b' => cases b' with
            | cons a'' b'' => cases b'' with
              | nil => exact ⟨_, _, _, rfl, k _ H1 F1 s1 (((R1.set a).set a').set a'')⟩
      | [], _, e => cases e
      | [_], _, e => cases e
      | [_, _], _, e => cases e
      | _ :: _ :: _ :: _ :: _, _, e => cases e
/-- a new list first, then a value: both names on one line -/
def sParO (i j : Nat) (f : SI) (g : SE) : SS := fun ρ => match f ρ with
  | none => none
  | some (ds, ρ1) => match g ρ1 with
    | some (.d d, ρ2) => if i = j then none else some (.nx, (ρ2.set i (.own ds)).set j (.dat d))
    | _ => none
theorem es_parO {i j : Nat} {a b : Expr} {f : SI} {g : SE} {st : Stmt} (h : ∀ {t u : TE}, PE X a t → PE X b u → PS X st (tPar i j (tCons t (tCons u tNil)))) (ha : EF c X a f) (hb : ∀ H0 F0 io, EO (c.re H0 F0 io) X b g) : ES c X st (sParO i j f g) := by
  refine ⟨ps_imp (h ha.pe (any_e hb)) fun D σ H ⟨F, ρ, fl, ρ', R, e, k⟩ => ?_⟩
  unfold sParO at e
  cases e1 : f ρ with
  | none => rw [e1] at e; cases e
  | some p =>
    obtain ⟨ds, ρ1⟩ := p
    rw [e1] at e
    dsimp only at e
    cases e2 : g ρ1 with
    | none => rw [e2] at e; cases e
    | some q =>
      obtain ⟨x, ρ2⟩ := q
      rw [e2] at e
      cases x with
      | s i => cases e
      | d d =>
        dsimp only at e
        split at e
        · cases e
        · rename_i hij
          cases e
          refine ⟨F, ρ, ds, ρ1, R, e1, fun a H1 F1 s1 R1 f1 => ?_⟩
          obtain ⟨vs, hv, hd⟩ := f1.at_
          have f0 : c.F0 a = none := R1.mono.free f1.nf
          have nio : a ∉ c.io := fun z => (R1.ioh a z).1 f1.h0
          have R2 := R1.guard f1 hv f0
          refine ⟨c.with a (.lst vs), rfl, ⟨rfl, rfl⟩, F1, ρ1, _, ρ2, R2, e2, fun v H3 F3 s3 R3 o3 => ?_⟩
          obtain ⟨R4, h4, n4, no4⟩ := R3.unguard f1.h0 f1.nt nio f0
          have f4 : Fresh c F3 H3 σ ρ2 a ds := ⟨⟨vs, h4, dpAll_same s3 hd⟩, n4, f1.nt, f1.h0, no4⟩
          have R5 := (R4.putOwn i f4).set (i := j) o3
          exact ⟨_, _, rfl, k _ H3 F3 (s1.trans s3) R5⟩
/-! ### x.extend([..]) -/
def sExt (i : Nat) (f : SI) : SS := fun ρ => match cont? ρ i with
  | none => none
  | some _ => match f ρ with
    | some (ys, ρ1) => match cont? ρ1 i with
      | some ds => if ds.length + ys.length ≤ 1000000 then some (.nx, setCont ρ1 i (ds ++ ys)) else none
      | none => none
    | _ => none
theorem es_ext (i : Nat) {f : SI} {st : Stmt} (h : ∀ {te : TE}, PE X e te → PS X st (tDrop (tBM X.K "list" rExtend (tVar i) (tCons te tNil)))) (he : EF c X e f) : ES c X st (sExt i f) := by
  refine ⟨ps_imp (h he.pe) fun D σ H ⟨F, ρ, fl, ρ', R, e, k⟩ => ?_⟩
  unfold sExt at e
  cases e0 : cont? ρ i with
  | none => rw [e0] at e; cases e
  | some rs0 =>
    rw [e0] at e
    dsimp only at e
    obtain ⟨r, ws, v0, v1, v2, v3, v4⟩ := cont_at R e0
    cases e1 : f ρ with
    | none => rw [e1] at e; cases e
    | some p =>
      obtain ⟨ys, ρ1⟩ := p
      rw [e1] at e
      dsimp only at e
      cases e2 : cont? ρ1 i with
      | none => rw [e2] at e; cases e
      | some ds =>
        rw [e2] at e
        dsimp only at e
        split at e
        · rename_i hn
          cases e
          refine ⟨.ref r, vAt_eq v0, .inl ⟨rfl, ws, .inl (.inl v1)⟩, F, ρ, _, ρ1, R, e1, fun a H1 F1 s1 R1 f1 => ?_⟩
          obtain ⟨r1, ws1, w0, w1, w2, w3, w4⟩ := cont_at R1 e2
          rw [v0] at w0
          cases w0
          obtain ⟨us, hu, hd⟩ := f1.at_
          exact ⟨r, a, ws1, us, rfl, rfl, w1, hu, by rw [dpAll_len w2, dpAll_len hd]; exact size_line hn, k σ _ F1 s1 (R1.put e2 v0 w3 w4 (dpAll_app w2 hd))⟩
        · cases e
/-! ### xs.count(x) -/
def fCount : PyData → PyData → Option PyData
  | .list ds, .int k => match intsOf ds with
    | some ns => some (.int (ns.count k : Nat))
    | none => none
  | _, _ => none
/-- a method of a list, one argument -/
def sM1 (f : PyData → PyData → Option PyData) (fo fa : SE) : SE := fun ρ => match fo ρ with
  | none => none
  | some (u, ρ1) => match res ρ1 u with
    | some (.list _) => match fa ρ1 with
      | none => none
      | some (v, ρ2) => match res ρ2 u, res ρ2 v with
        | some d, some e => (f d e).map fun z => (.d z, ρ2)
        | _, _ => none
    | _ => none
def L1M (K : PySem.W.Frag) (r : V → List V → Hp → VK → Prop) (f : PyData → PyData → Option PyData) : Prop :=
  ∀ (F H : Hp) (x y : V) (d e z : PyData) (Q : VK), Same F H → Vw K F H x d → Vw K F H y e → f d e = some z → (∀ v F' H', Xt F H F' H' → Dz K F' v z → Q v H') → r x [y] H Q
theorem eo_m1 {o ce : Expr} {fo fa : SE} {r : V → List V → Hp → VK → Prop} {f : PyData → PyData → Option PyData} (hK : X.K = c.K) (h : ∀ {to te : TE}, PE X o to → PE X e te → PE X ce (tBM X.K "list" r to (tCons te tNil))) (hl : L1M c.K r f) (ho : EO c X o fo) (he : EO c X e fa) : EO c X ce (sM1 f fo fa) := by
  refine ⟨pe_imp (h ho.pe he.pe) fun σ H Q ⟨F, ρ, x, ρ', R, q, k⟩ => ?_⟩
  unfold sM1 at q
  cases h1 : fo ρ with
  | none => rw [h1] at q; cases q
  | some p =>
    obtain ⟨u, ρ1⟩ := p
    rw [h1] at q
    dsimp only at q
    split at q
    · rename_i ds0 h2
      cases h3 : fa ρ1 with
      | none => rw [h3] at q; cases q
      | some p =>
        obtain ⟨v, ρ2⟩ := p
        rw [h3] at q
        dsimp only at q
        cases h4 : res ρ2 u with
        | none => rw [h4] at q; cases q
        | some d =>
          cases h5 : res ρ2 v with
          | none => rw [h4, h5] at q; cases q
          | some d' =>
            rw [h4, h5] at q
            dsimp only at q
            cases h6 : f d d' with
            | none => rw [h6] at q; cases q
            | some z =>
              rw [h6] at q
              cases q
              refine ⟨F, ρ, u, ρ1, R, h1, fun xv H1 F1 s1 R1 o1 => ?_⟩
              obtain ⟨a, vs, rfl, ha, _⟩ := (R1.vw o1 h2).list R1.sub
              refine ⟨.inl ⟨rfl, vs, by rw [hK]; exact ha⟩, F1, ρ1, v, _, R1, h3, fun yv H2 F2 s2 R2 o2 => ?_⟩
              exact hl F2 H2 _ yv d d' z Q R2.sub (R2.vw (o1.same s2) h4) (R2.vw o2 h5) h6 fun w F3 H3 xt dz => k w H3 F3 (s1.trans (s2.trans xt.f)) (R2.xt xt) dz
    · cases q
theorem l1_count {K : PySem.W.Frag} : L1M K (rCntI K) fCount := by
  intro F H x y d e z Q s hx hy hf k
  unfold fCount at hf
  split at hf
  · rename_i ds j
    split at hf
    · rename_i ns e1
      cases hf
      obtain ⟨a, vs, rfl, ha, hd⟩ := hx.list s
      rw [intsOf_eq e1] at hd
      have hv := dpAll_ints hd
      subst hv
      refine ⟨a, ns, j, rfl, by rw [hy.int], ha, k _ F H (Xt.refl s) (.int _)⟩
    · cases hf
  · cases hf
/-! ### list(range(a, b)), tuple(range(a, b)) -/
def rgOkB (a b : Int) : Bool := decide (a.natAbs ≤ 1000000 ∧ b.natAbs ≤ 1000000)
theorem rgOk_of {a b : Int} (h : rgOkB a b = true) : RgOk a b ∧ (b - a).toNat ≤ 2000000 := by
  have h := of_decide_eq_true h
  unfold RgOk
  have : (sizeLine : Nat) = sizeLine := rfl
  refine ⟨?_, by omega⟩
  have z := sizeLine_eq
  omega
/-- the two ends -/
abbrev SR := Ev → Option (Int × Int × Ev)
def sR1 (f : SE) : SR := fun ρ => match f ρ with
  | some (.d (.int n), ρ1) => some (0, n, ρ1)
  | _ => none
def sR2 (f g : SE) : SR := fun ρ => match f ρ with
  | some (.d (.int a), ρ1) => match g ρ1 with
    | some (.d (.int b), ρ2) => some (a, b, ρ2)
    | _ => none
  | _ => none
def rR (c : Co) (f : SR) : L2.St → Hp → (Int → Int → Hp → Prop) → Prop := fun σ H Q => ∃ F ρ a b ρ', Rl c F H σ ρ ∧ f ρ = some (a, b, ρ') ∧ ∀ H' F', Same F F' → Rl c F' H' σ ρ' → Q a b H'
structure ER (c : Co) (X : Cx) (e : Expr) (f : SR) : Prop where
  pr : PRg X e (rR c f)
theorem er_1 {a ce : Expr} {f : SE} (h : ∀ {t : TE}, PE X a t → PRg X ce (tRg1 t)) (ha : EO c X a f) : ER c X ce (sR1 f) := by
  refine ⟨fun pins s σ H Q I ⟨F, ρ, i, j, ρ', R, e, k⟩ => h ha.pe pins s σ H Q I ?_⟩
  unfold sR1 at e
  split at e
  · rename_i n ρ1 e1
    cases e
    refine ⟨F, ρ, _, _, R, e1, fun v H1 F1 s1 R1 o1 => ?_⟩
    cases o1
    exact ⟨_, rfl, k H1 F1 s1 R1⟩
  · cases e
theorem er_2 {a b ce : Expr} {f g : SE} (h : ∀ {t u : TE}, PE X a t → PE X b u → PRg X ce (tRg2 t u)) (ha : EO c X a f) (hb : EO c X b g) : ER c X ce (sR2 f g) := by
  refine ⟨fun pins s σ H Q I ⟨F, ρ, i, j, ρ', R, e, k⟩ => h ha.pe hb.pe pins s σ H Q I ?_⟩
  unfold sR2 at e
  split at e
  · rename_i n ρ1 e1
    split at e
    · rename_i m ρ2 e2
      cases e
      refine ⟨F, ρ, _, _, R, e1, fun v H1 F1 s1 R1 o1 => ⟨F1, ρ1, _, _, R1, e2, fun w H2 F2 s2 R2 o2 => ?_⟩⟩
      cases o1
      cases o2
      exact ⟨_, _, rfl, rfl, k H2 F2 (s1.trans s2) R2⟩
    · cases e
  · cases e
theorem rgV_dp {F : Hp} {K : PySem.W.Frag} (a b : Int) : DzAll K F (rgV a b) (rangeD a b) := by
  unfold rgV rangeD
  have e1 : (List.range (b - a).toNat).map (fun i => V.int (a + (i : Nat))) = ((List.range (b - a).toNat).map fun i => a + (i : Nat)).map V.int := by rw [List.map_map]; rfl
  have e2 : (List.range (b - a).toNat).map (fun i => PyData.int (a + (i : Nat))) = ((List.range (b - a).toNat).map fun i => a + (i : Nat)).map PyData.int := by rw [List.map_map]; rfl
  rw [e1, e2]
  exact ints_dpAll _
def sLstRg (f : SR) : SI := fun ρ => match f ρ with
  | some (a, b, ρ1) => if rgOkB a b then some (rangeD a b, ρ1) else none
  | none => none
theorem ef_lstRg {ce : Expr} {f : SR} (h : ∀ {t}, PRg X e t → PE X ce (tLstRg t)) (he : ER c X e f) : EF c X ce (sLstRg f) := by
  refine ⟨pe_imp (h he.pr) fun σ H Q ⟨F, ρ, ds, ρ', R, q, k⟩ => ?_⟩
  unfold sLstRg at q
  cases e1 : f ρ with
  | none => rw [e1] at q; cases q
  | some p =>
    obtain ⟨i, j, ρ1⟩ := p
    rw [e1] at q
    dsimp only at q
    split at q
    · rename_i hr
      cases q
      refine ⟨F, ρ, i, j, _, R, e1, fun H1 F1 s1 R1 => ⟨(rgOk_of hr).1, fun p hp => ?_⟩⟩
      obtain ⟨R2, f2⟩ := R1.fresh hp (rgV_dp (F := F1) i j)
      exact k p _ F1 s1 R2 f2
    · cases q
def sTupRg (f : SR) : SE := fun ρ => match f ρ with
  | some (a, b, ρ1) => if rgOkB a b then some (.d (.tuple (rangeD a b)), ρ1) else none
  | none => none
theorem eo_tupRg {ce : Expr} {f : SR} (h : ∀ {t}, PRg X e t → PE X ce (tTupRgF t)) (he : ER c X e f) : EO c X ce (sTupRg f) := by
  refine ⟨pe_imp (h he.pr) fun σ H Q ⟨F, ρ, ds, ρ', R, q, k⟩ => ?_⟩
  unfold sTupRg at q
  cases e1 : f ρ with
  | none => rw [e1] at q; cases q
  | some p =>
    obtain ⟨i, j, ρ1⟩ := p
    rw [e1] at q
    dsimp only at q
    split at q
    · rename_i hr
      cases q
      refine ⟨F, ρ, i, j, _, R, e1, fun H1 F1 s1 R1 => ⟨(rgOk_of hr).1, fun p ob hp hob => ?_⟩⟩
      have xt := Xt.new (o := .frz ob (.tup (rgV i j))) R1.sub hp hob
      exact k (.ref p) _ _ (s1.trans xt.f) (R1.xt xt) (dp_newT (R1.sub.free hp) (rgV_dp i j))
    · cases q
end
end PD

/-! Plain data: truth as a test; what stands at a def's name -/
namespace PD
open PySem PySem.Spec PyProof.Rows L2 GxR LG
section
variable {c : Co} {X : Cx} {a : Expr} {fa : SE}
theorem Vw.str {K : PySem.W.Frag} {F H : Hp} {x : V} {z : Str} (h : Vw K F H x (.str z)) : x = .str z := by
  rcases h with h | ⟨_, _, _, _, h, _⟩ | ⟨_, _, _, _, h, _⟩
  · cases h; rfl
  · cases h
  · cases h
theorem et_tr (ha : EO c X a fa) (hK : X.K = c.K := by rfl) (he : ∀ whole, isTrue a X.env whole = (do let v ← whole; standAt a.pos; holding [v] (truthy v)) := by intro _; rfl) : ET c X a (sTr fa) := by
  refine ⟨pt_imp (pt_truth ha.pe he) fun σ H Q ⟨F, ρ, b, ρ', R, e, k⟩ => ?_⟩
  unfold sTr at e
  cases e1 : fa ρ with
  | none => rw [e1] at e; cases e
  | some p =>
    obtain ⟨x, ρ1⟩ := p
    rw [e1] at e
    dsimp only at e
    cases e2 : res ρ1 x with
    | none => rw [e2] at e; cases e
    | some d =>
      rw [e2] at e
      dsimp only at e
      cases e3 : truth d with
      | none => rw [e3] at e; cases e
      | some bb =>
        rw [e3] at e
        cases e
        refine ⟨F, ρ, x, _, R, e1, fun v H1 F1 s1 R1 o1 => ⟨b, ?_, k H1 F1 s1 R1⟩⟩
        have vw := R1.vw o1 e2
        rw [hK]
        cases d with
        | none => cases e3; rw [vw.non]; exact rfl
        | bool t => cases e3; rw [vw.bool]; exact rfl
        | int t => cases e3; rw [vw.int]; exact rfl
        | list ds =>
          cases e3
          obtain ⟨p, vs, rfl, h1, h2⟩ := vw.list R1.sub
          refine .inl ⟨vs, h1, ?_⟩
          have := dpAll_len h2
          cases vs <;> cases ds <;> simp_all
        | tuple ds =>
          cases e3
          obtain ⟨p, vs, rfl, h1, h2⟩ := vw.tup R1.sub
          refine .inr (.inl ⟨vs, h1, ?_⟩)
          have := dpAll_len h2
          cases vs <;> cases ds <;> simp_all
        | _ => cases e3
end
theorem hu64 {A : Around} {k : Nat} (hr : Room k A) : A.units + 64 < cLine := by have := hr.un; omega
theorem hu65 {A : Around} {k : Nat} (hr : Room k A) : A.units + 65 < cLine := by have := hr.un; omega
/-- a value, then a new list: both names on one line -/
def sParQ (i j : Nat) (g : SE) (f : SI) : SS := fun ρ => match g ρ with
  | some (.d d, ρ1) => match f ρ1 with
    | none => none
    | some (ds, ρ2) => if i = j then none else some (.nx, (ρ2.set i (.dat d)).set j (.own ds))
  | _ => none
theorem es_parQ {c : Co} {X : Cx} {i j : Nat} {a b : Expr} {f : SI} {g : SE} {st : Stmt} (h : ∀ {t u : TE}, PE X a t → PE X b u → PS X st (tPar i j (tCons t (tCons u tNil)))) (ha : EO c X a g) (hb : EF c X b f) : ES c X st (sParQ i j g f) := by
  refine ⟨ps_imp (h ha.pe hb.pe) fun D σ H ⟨F, ρ, fl, ρ', R, e, k⟩ => ?_⟩
  unfold sParQ at e
  cases e1 : g ρ with
  | none => rw [e1] at e; cases e
  | some p =>
    obtain ⟨x, ρ1⟩ := p
    rw [e1] at e
    cases x with
    | s i => cases e
    | d d =>
      dsimp only at e
      cases e2 : f ρ1 with
      | none => rw [e2] at e; cases e
      | some q =>
        obtain ⟨ds, ρ2⟩ := q
        rw [e2] at e
        dsimp only at e
        split at e
        · cases e
        · rename_i hij
          cases e
          refine ⟨F, ρ, _, ρ1, R, e1, fun v H1 F1 s1 R1 o1 => ⟨F1, ρ1, ds, ρ2, R1, e2, fun a H2 F2 s2 R2 f2 => ?_⟩⟩
          have R5 := (R2.putOwn j f2).set (i := i) (dp_same s2 o1)
          rw [List.set_comm _ _ (Ne.symm hij), List.set_comm _ _ (Ne.symm hij)] at R5
          exact ⟨_, _, rfl, k _ H2 F2 (s1.trans s2) R5⟩
/-- name = [.. for ..] on one line -/
theorem es_lc {c : Co} {X : Cx} {st : Stmt} {i : Nat} {S : SS} {elt tg iter : Expr} {ifs : List Expr} {scope : Scope} {own : List (Str × Nat)} {fi : SI} {g : SG} {ks : List Nat} {t : STe} {f : SE}
    (hS : ∀ D σ H, rS c S D σ H → rF c (sComp fi g t f (own.map (·.2))) σ H fun x H1 => gName i x σ H1 D.nx)
    (h : ∀ {wi : TI} {g' : TG} {tt : TT} {te : TE}, PI X tg iter wi → (∀ (s : Shared) (H : Hp) (C : Addr) (cl : List (Str × Addr)) (fp : List Addr), PG (X.blk s H scope (compEnvC scope cl C X.env) fp) tg g') →
      (∀ (s : Shared) (H : Hp) (C : Addr) (cl : List (Str × Addr)) (fp : List Addr), PTs (X.blk s H scope (compEnvC scope cl C X.env) fp) ifs tt) → (∀ (s : Shared) (H : Hp) (C : Addr) (cl : List (Str × Addr)) (fp : List Addr), PE (X.blk s H scope (compEnvC scope cl C X.env) fp) elt te) → PS X st (tAsg (tLc wi g' tt te (own.map (·.2))) (gName i)))
    (hi : EI c X tg iter fi) (hks : ∀ i ∈ ks, i ∈ own.map (·.2))
    (hg : ∀ H0 F0 io (s : Shared) (H : Hp) (C : Addr) (cl : List (Str × Addr)) (fp : List Addr), EG (c.re H0 F0 io) (X.blk s H scope (compEnvC scope cl C X.env) fp) tg g ks)
    (ht : ∀ H0 F0 io (s : Shared) (H : Hp) (C : Addr) (cl : List (Str × Addr)) (fp : List Addr), ETs (c.re H0 F0 io) (X.blk s H scope (compEnvC scope cl C X.env) fp) ifs t)
    (he : ∀ H0 F0 io (s : Shared) (H : Hp) (C : Addr) (cl : List (Str × Addr)) (fp : List Addr), EO (c.re H0 F0 io) (X.blk s H scope (compEnvC scope cl C X.env) fp) elt f) : ES c X st S :=
  setlc_core hS (h hi.pi (fun s H C cl fp => any_g fun H0 F0 io => hg H0 F0 io s H C cl fp) (fun s H C cl fp => any_t fun H0 F0 io => ht H0 F0 io s H C cl fp) fun s H C cl fp => any_e fun H0 F0 io => he H0 F0 io s H C cl fp) fun _ _ _ hyp => comp_core hks hyp
/-- -1 -/
theorem eo_neg {c : Co} {X : Cx} (i : Int) {j : Nat} {p q : Pos} : EO c X (.UnaryOp .USub (.Constant (.int i) j p) q) (sC (.int (-i))) :=
  ⟨pe_imp (pe_un un_neg pe_int) fun σ H Q ⟨F, ρ, y, ρ', R, e, k⟩ => by
    cases e
    exact ⟨i, rfl, k _ H F (Same.refl _) R (.int _)⟩⟩
/-- the def st stands at the module's name x -/
structure Dk (K : PySem.W.Frag) (mg : Str → Option Value) (x : Str) (st : Stmt) (ps : List Str) (f : Addr) (fd : FuncData) : Prop where
  fn : Fun K x x st f fd
  mg : mg x = some (.ref f)
  b : Binds K fd ps []
/-- .. its code object at cA (a def with generator expressions) -/
structure Dg (K : PySem.W.Frag) (mg : Str → Option Value) (x : Str) (st : Stmt) (ps : List Str) (f : Addr) (fd : FuncData) (cA : Addr) : Prop where
  ex : ∃ (oc : Value) (od : Option Addr) (kV doc pm : Value) (an : Option Addr) (ct : Value) (osl : Array (Option Value)),
    fd = PySem.W.fnOf x x (defArgs st) (defBody st) (defScope st) .none kV doc pm an (.ref cA) ct ∧ K.lookup f = some ⟨oc, od, .func fd, osl⟩ ∧ PySem.W.codeIn K (.ref cA) x = true
  kp : PySem.W.keepIn K (.ref f) = true
  mg : mg x = some (.ref f)
  b : Binds K fd ps []
theorem Dg.pure {K : PySem.W.Frag} {T : List Addr} {P : Program} {w : World} {mg : Str → Option Value} {base : Heap} {x : Str} {st : Stmt} {ps : List Str} {f : Addr} {fd : FuncData} {cA : Addr} {N : List Str} {k : Nat} (D : Dg K mg x st ps f fd cA) (S : FnScope N ps (defScope st)) (g : SS) (hnp : ps.length ≤ N.length)
    (hb : ∀ (A : Around) (outer : List Env) (s : Shared) (H : Hp) (E : XK) (H0 F0 : Hp) (io : List Addr), Room k (A.deeper (envOfC x (defScope st) s.heap.objs.size f (.ref cA))) →
      ESs ⟨K, T, H0, F0, io, []⟩ (cxOf CX0 P w K mg base N x (defScope st) f (.ref cA) A outer s H E).nox (defBody st) g) :
    FnOk P w K mg base CX0 (k + 1) f fd ps (spP K T (fun ds => if ds.length = ps.length then bodyP g N.length ds else none)) := by
  obtain ⟨oc, od, kV, doc, pm, an, ct, osl, rfl, l, cd⟩ := D.ex
  exact fn_pureC l cd S g hnp hb
end PD

/-! Plain data: a written list times an int -/
namespace PD
open PySem PySem.Spec PyProof.Rows L2 GxR LG
def sRep (f : SI) (g : SE) : SI := fun ρ => match f ρ with
  | none => none
  | some (ds, ρ1) => match g ρ1 with
    | some (.d (.int k), ρ2) => if k.natAbs ≤ 1000 ∧ ds.length ≤ 1000 then some ((List.replicate k.toNat ds).flatten, ρ2) else none
    | _ => none
theorem dpAll_rep {K : PySem.W.Frag} {F : Hp} {vs : List V} {ds : List PyData} (h : DzAll K F vs ds) : ∀ k : Nat, DzAll K F (List.replicate k vs).flatten (List.replicate k ds).flatten
  | 0 => .nil
  | k + 1 => by
    rw [List.replicate_succ, List.replicate_succ, List.flatten_cons, List.flatten_cons]
    exact dpAll_app h (dpAll_rep h k)
theorem ef_rep {c : Co} {X : Cx} {a b : Expr} {pos : Pos} {f : SI} {g : SE} (ha : EF c X a f) (hb : ∀ H0 F0 io, EO (c.re H0 F0 io) X b g) : EF c X (.BinOp a .Mult b pos) (sRep f g) := by
  refine ⟨pe_imp (pe_op op_rep ha.pe (any_e hb)) fun σ H Q ⟨F, ρ, out, ρ', R, e, k⟩ => ?_⟩
  unfold sRep at e
  cases e1 : f ρ with
  | none => rw [e1] at e; cases e
  | some p =>
    obtain ⟨ds, ρ1⟩ := p
    rw [e1] at e
    dsimp only at e
    split at e
    · rename_i j ρ2 e2
      split at e
      · rename_i hk
        cases e
        refine ⟨F, ρ, ds, ρ1, R, e1, fun D H1 F1 s1 R1 f1 => ?_⟩
        obtain ⟨vs, hv, hd⟩ := f1.at_
        have f0 : c.F0 D = none := R1.mono.free f1.nf
        have nio : D ∉ c.io := fun z => (R1.ioh D z).1 f1.h0
        refine ⟨c.with D (.lst vs), rfl, ⟨rfl, rfl⟩, F1, ρ1, _, _, R1.guard f1 hv f0, e2, fun v H3 F3 s3 R3 o3 => ?_⟩
        cases o3
        obtain ⟨R4, h4, n4, no4⟩ := R3.unguard f1.h0 f1.nt nio f0
        have hd3 := dpAll_same s3 hd
        have hl := dpAll_len hd
        have hm : vs.length * j.toNat ≤ 1000 * 1000 := Nat.mul_le_mul (by omega) (by omega)
        refine ⟨D, j, vs, rfl, rfl, h4, by omega, by omega, size_line (by omega), fun p hp => ?_⟩
        obtain ⟨R5, f5⟩ := R4.fresh hp (dpAll_rep hd3 j.toNat)
        exact k p _ F3 (s1.trans s3) R5 f5
      · cases e
    · cases e
/-- x, y = e, [..] as a tuple that is made and taken apart (one of the names is a cell) -/
theorem es_tupQ {c : Co} {X : Cx} {i j : Nat} {a b : Expr} {f : SI} {g : SE} {st : Stmt} (hK : X.K = c.K)
    (h : ∀ {t u : TE}, PE X a t → PE X b u → PS X st (tAsg (tTup (tCons t (tCons u tNil))) (gTup X.K 2 (gCons (gName i) (gCons (gName j) gNil))))) (ha : EO c X a g) (hb : EF c X b f) : ES c X st (sParQ i j g f) := by
  refine ⟨ps_imp (h ha.pe hb.pe) fun D σ H ⟨F, ρ, fl, ρ', R, e, k⟩ => ?_⟩
  unfold sParQ at e
  cases e1 : g ρ with
  | none => rw [e1] at e; cases e
  | some p =>
    obtain ⟨x, ρ1⟩ := p
    rw [e1] at e
    cases x with
    | s i => cases e
    | d d =>
      dsimp only at e
      cases e2 : f ρ1 with
      | none => rw [e2] at e; cases e
      | some q =>
        obtain ⟨ds, ρ2⟩ := q
        rw [e2] at e
        dsimp only at e
        split at e
        · cases e
        · rename_i hij
          cases e
          refine ⟨F, ρ, _, ρ1, R, e1, fun v H1 F1 s1 R1 o1 => ⟨F1, ρ1, ds, ρ2, R1, e2, fun D2 H2 F2 s2 R2 f2 => ⟨size_line (by simp), fun p hp => ?_⟩⟩⟩
          have xt := Xt.raw (o := .tup [v, .ref D2]) R2.sub hp
          have R3 := R2.xt xt
          obtain ⟨vs, hv, hd⟩ := f2.at_
          have f3 : Fresh c F2 (upd H2 p (.tup [v, .ref D2])) σ ρ2 D2 ds := ⟨⟨vs, by rw [upd_ne (ne_of_none hv hp)]; exact hv, hd⟩, f2.nf, f2.nt, f2.h0, f2.no⟩
          have R5 := (R3.putOwn j f3).set (i := i) (dp_same s2 o1)
          rw [List.set_comm _ _ (Ne.symm hij), List.set_comm _ _ (Ne.symm hij)] at R5
          exact ⟨p, _, rfl, .inl (.inl upd_same), rfl, _, _, rfl, _, _, rfl, rfl, k _ _ F2 (s1.trans s2) R5⟩
end PD

/-! Plain data: xs.count(x) of a tuple, too -/
namespace PD
open PySem PySem.Spec PyProof.Rows L2 GxR LG
section
variable {X : Cx}
def rCntT (K : PySem.W.Frag) : V → List V → Hp → VK → Prop := fun x xs H Q => ∃ (p : Addr) (ns : List Int) (k : Int), x = .ref p ∧ xs = [.int k] ∧ SqT K H p (ns.map V.int) ∧ Q (.int (ns.count k : Nat)) H
theorem mt_tcount : MtR X "tuple.count" (rCntT X.K) := by
  intro pins s σ H x args v us Q I rx rxs h
  obtain ⟨tp, ns, k, rfl, rfl, hs, wish⟩ := h
  cases rx
  obtain ⟨u, rfl, ru⟩ := rxs.one
  obtain ⟨t, rfl⟩ := ru
  obtain ⟨vals, rv, ⟨⟨cls, dct, data, sl⟩, ho, hc, n, hd⟩, _⟩ := I.tuple hs
  replace hc : cls = .type "tuple" := hc
  replace hd : data = .seq vals.toArray n := hd
  subst hc hd
  have hi := ints_of_vals rv
  have many : vals.toArray.toList.countP (eqk k) = ns.count k := eqk_count hi
  refine call_meets PySem.F.slot_tuple_count ⟨_, ho, rfl⟩ PySem.F.entry_tuple_count (PySem.F.args_tuple_count_2 _ _)
    (SeqAt.tuple_countAt tp vals.toArray n dct sl (.int k t) (eqk k)) ⟨ho, fun y hy => (eqk_gives hi y (by simpa using hy)).at _ _, ?_⟩
  refine ⟨.int (ns.count k : Nat), H, I.tok _, ⟨s.toks, ?_⟩, wish⟩
  rw [many]
end
/-- a tuple that is known to bear no dict -/
def TupD (K : PySem.W.Frag) (H : Hp) (a : Addr) : Prop := (∃ o vs, H a = some (.frz o (.tup vs)) ∧ PlT o) ∨ ∃ o, K.lookup a = some o ∧ o.cls = .type "tuple" ∧ PlT o
theorem TupD.is {X : Cx} {pins : List (Addr × Obj)} {σ : L2.St} {H : Hp} {s : Shared} {a : Addr} (I : Inv X pins σ H s) (h : TupD X.K H a) :
    s.TypeIs (.ref a) "tuple" ∧ ∃ o, s.heap.get? a = some o ∧ o.dict = none := by
  rcases h with ⟨o, vs, e, d⟩ | ⟨o, e, c, d⟩
  · obtain ⟨e1, _, us, _, pt⟩ := (show ObjOk X.prog X.w H s.heap a (.frz o (.tup vs)) from I.hok a _ e)
    exact ⟨pt.typeIs, o, e1, d.1⟩
  · have e1 := I.kIn a o e
    exact ⟨⟨o, e1, c⟩, o, e1, d.1⟩
/-- a method of a tuple -/
def tTM (K : PySem.W.Frag) (r : V → List V → Hp → VK → Prop) (to : TE) (t : TA) : TE := fun σ H Q => to σ H fun x H1 => (∃ a, x = .ref a ∧ TupD K H1 a) ∧ t σ H1 fun vs H2 => r x vs H2 Q
theorem pe_tm {X : Cx} {o e : Expr} {to : TE} {t : TA} {name : Str} {apos cpos : Pos} {id : String} {r : V → List V → Hp → VK → Prop} (slot : Slot "tuple" name id) (hty : typeOf (.builtin id) = pure (.type "method_descriptor")) (hm : MtR X id r) (ho : PE X o to) (ha : PA X [e] t)
    (hb : attributeBase o name X.env (eval o X.env) = eval o X.env := by rfl)
    (hf : ((backTo cpos (starEach [e] X.env)).all (fun x => !x.1) && (backToKw cpos (keywordEach [] X.env)).all (fun x => x.1.isSome)
      && decide ([e].length + ([] : List Keyword).length + (if ([] : List Keyword).isEmpty then 0 else 1) < 30)) = true := by rfl)
    (hl : (apos.endLine == cpos.line) = true := by rfl) (hs : starEach [e] X.env = (false, eval e X.env) :: starEach [] X.env := by rfl) (hp : (backTo cpos (starEach [] X.env)).any (·.1) = false := by rfl) :
    PE X (.Call (.Attribute o name apos) [e] [] cpos) (tTM X.K r to t) := by
  refine ⟨fun pins s σ H Q I h => ?_⟩
  refine wpAny_Call_method_late hb hf hl rfl (thn (ho.run pins s σ H _ I h) fun v s1 ⟨x, H1, I1, r1, ⟨a, ex, td⟩, q1⟩ => ?_)
  subst ex
  cases r1
  obtain ⟨h1, ob, h2, h3⟩ := td.is I1
  refine ⟨"tuple", id, PySem.F.plainAttrs_tuple, slot, hty, h1, fun b eb => ?_, ?_⟩
  · cases eb
    exact ⟨ob, h2, h3⟩
  · have args := ha.run cpos pins s1 σ H1 _ I1 q1
    rw [hs] at args ⊢
    refine Calls.callWith_builtin (by show (false || (backTo cpos (starEach [] X.env)).any (·.1)) = false; rw [hp] <;> rfl) (Calls.evalArgs_plain ?_)
    exact thn args fun us s2 ⟨vs, H2, I2, r2, q2⟩ => hm pins s2 σ H2 (.ref a) vs _ us Q I2 rfl r2 q2
def fCountT : PyData → PyData → Option PyData
  | .tuple ds, .int k => match intsOf ds with
    | some ns => some (.int (ns.count k : Nat))
    | none => none
  | _, _ => none
/-- a method of a tuple, one argument -/
def sM1T (f : PyData → PyData → Option PyData) (fo fa : SE) : SE := fun ρ => match fo ρ with
  | none => none
  | some (u, ρ1) => match res ρ1 u with
    | some (.tuple _) => match fa ρ1 with
      | none => none
      | some (v, ρ2) => match res ρ2 u, res ρ2 v with
        | some d, some e => (f d e).map fun z => (.d z, ρ2)
        | _, _ => none
    | _ => none
section
variable {c : Co} {X : Cx}
theorem eo_m1T {o ce : Expr} {fo fa : SE} {r : V → List V → Hp → VK → Prop} {f : PyData → PyData → Option PyData} (hK : X.K = c.K) (h : ∀ {to te : TE}, PE X o to → PE X e te → PE X ce (tTM X.K r to (tCons te tNil))) (hl : L1M c.K r f) (ho : EO c X o fo) (he : EO c X e fa) : EO c X ce (sM1T f fo fa) := by
  refine ⟨pe_imp (h ho.pe he.pe) fun σ H Q ⟨F, ρ, x, ρ', R, q, k⟩ => ?_⟩
  unfold sM1T at q
  cases h1 : fo ρ with
  | none => rw [h1] at q; cases q
  | some p =>
    obtain ⟨u, ρ1⟩ := p
    rw [h1] at q
    dsimp only at q
    split at q
    · rename_i ds0 h2
      cases h3 : fa ρ1 with
      | none => rw [h3] at q; cases q
      | some p =>
        obtain ⟨v, ρ2⟩ := p
        rw [h3] at q
        dsimp only at q
        cases h4 : res ρ2 u with
        | none => rw [h4] at q; cases q
        | some d =>
          cases h5 : res ρ2 v with
          | none => rw [h4, h5] at q; cases q
          | some d' =>
            rw [h4, h5] at q
            dsimp only at q
            cases h6 : f d d' with
            | none => rw [h6] at q; cases q
            | some z =>
              rw [h6] at q
              cases q
              refine ⟨F, ρ, u, ρ1, R, h1, fun xv H1 F1 s1 R1 o1 => ?_⟩
              have td : ∃ a, xv = .ref a ∧ TupD X.K H1 a := by
                rw [hK]
                rcases R1.vw o1 h2 with z | ⟨_, _, _, _, z, _⟩ | ⟨_, _, _, _, z, _⟩
                · cases z with
                  | tup hq _ =>
                    refine ⟨_, rfl, ?_⟩
                    rcases R1.tf.dict hq with ⟨ob, z1, z2⟩ | z1
                    · exact .inl ⟨ob, _, R1.sub _ _ z1, z2⟩
                    · exact .inr z1
                · cases z
                · cases z
              refine ⟨td, F1, ρ1, v, _, R1, h3, fun yv H2 F2 s2 R2 o2 => ?_⟩
              exact hl F2 H2 _ yv d d' z Q R2.sub (R2.vw (o1.same s2) h4) (R2.vw o2 h5) h6 fun w F3 H3 xt dz => k w H3 F3 (s1.trans (s2.trans xt.f)) (R2.xt xt) dz
    · cases q
theorem l1_countT {K : PySem.W.Frag} : L1M K (rCntT K) fCountT := by
  intro F H x y d e z Q s hx hy hf k
  unfold fCountT at hf
  split at hf
  · rename_i ds j
    split at hf
    · rename_i ns e1
      cases hf
      obtain ⟨a, vs, rfl, ha, hd⟩ := hx.tup s
      rw [intsOf_eq e1] at hd
      have hv := dpAll_ints hd
      subst hv
      refine ⟨a, ns, j, rfl, by rw [hy.int], ha, k _ F H (Xt.refl s) (.int _)⟩
    · cases hf
  · cases hf
/-- one or the other -/
def sOrE (f g : SE) : SE := fun ρ => match f ρ with
  | some r => some r
  | none => g ρ
theorem eo_or2 {e : Expr} {f g : SE} (hf : EO c X e f) (hg : EO c X e g) : EO c X e (sOrE f g) := by
  have h1 := hf.pe
  have h2 := hg.pe
  refine ⟨⟨fun pins s σ H Q I ⟨F, ρ, x, ρ', R, q, k⟩ => ?_⟩⟩
  unfold sOrE at q
  cases e1 : f ρ with
  | none =>
    rw [e1] at q
    exact h2.run pins s σ H Q I ⟨F, ρ, x, ρ', R, q, k⟩
  | some r =>
    rw [e1] at q
    cases q
    exact h1.run pins s σ H Q I ⟨F, ρ, x, ρ', R, e1, k⟩
end
end PD

/-! Plain data: x += e, -e, comb, perm, factorial, gcd, defs with defaults -/
namespace PD
open PySem PySem.Spec PyProof.Rows L2 GxR LG
/-! ### math -/
section
variable {X : Cx}
def rComb : List V → Hp → VK → Prop := fun vs H Q => ∃ a b : Int, vs = [.int a, .int b] ∧ 0 ≤ a ∧ 0 ≤ b ∧ a ≤ 18000 ∧ Q (.int (PySem.W.mcComb a b)) H
theorem cr_comb : CallR X (.builtin "math.comb") rComb := by
  intro pins s σ H vs us Q I r h
  obtain ⟨a, b, rfl, h1, h2, h3, q⟩ := h
  obtain ⟨t, u, rfl⟩ := Vals.int2 r
  exact PySem.W.mc_comb h1 h2 (by omega) (.inr h3) fun _ => ⟨.int _, H, I.tok _, ⟨_, rfl⟩, q⟩
def rPerm : List V → Hp → VK → Prop := fun vs H Q => ∃ a b : Int, vs = [.int a, .int b] ∧ 0 ≤ a ∧ 0 ≤ b ∧ a ≤ 18000 ∧ b ≤ 18000 ∧ Q (.int (PySem.W.mcPerm a b)) H
theorem cr_perm : CallR X (.builtin "math.perm") rPerm := by
  intro pins s σ H vs us Q I r h
  obtain ⟨a, b, rfl, h1, h2, h3, h4, q⟩ := h
  obtain ⟨t, u, rfl⟩ := Vals.int2 r
  exact PySem.W.mc_perm h1 h2 (by omega) (by omega) fun _ => ⟨.int _, H, I.tok _, ⟨_, rfl⟩, q⟩
def rFac : List V → Hp → VK → Prop := fun vs H Q => ∃ a : Int, vs = [.int a] ∧ 0 ≤ a ∧ a ≤ 18000 ∧ Q (.int ((Builtin.Math.factorialNat a.toNat : Nat) : Int)) H
theorem cr_fac : CallR X (.builtin "math.factorial") rFac := by
  intro pins s σ H vs us Q I r h
  obtain ⟨a, rfl, h1, h2, q⟩ := h
  obtain ⟨u, rfl, ru⟩ := vals1 r
  obtain ⟨t, rfl⟩ := ru
  exact PySem.W.mc_factorial h1 (by omega) fun _ => ⟨.int _, H, I.tok _, ⟨_, rfl⟩, q⟩
end
section
variable {K : PySem.W.Frag}
def fComb : List PyData → Option PyData
  | [.int a, .int b] => if 0 ≤ a ∧ 0 ≤ b ∧ a ≤ 18000 then some (.int (PySem.W.mcComb a b)) else none
  | _ => none
theorem ln_comb : LNok K rComb fComb := by
  intro F H vs ds z Q s hv hf k
  unfold fComb at hf
  split at hf
  · split at hf
    · rename_i hc
      cases hf
      obtain ⟨v, u, rfl, h1, h2⟩ := vw2 hv
      exact ⟨_, _, by rw [h1.int, h2.int], hc.1, hc.2.1, hc.2.2, k _ F H (Xt.refl s) (.int _)⟩
    · cases hf
  · cases hf
def fPerm : List PyData → Option PyData
  | [.int a, .int b] => if 0 ≤ a ∧ 0 ≤ b ∧ a ≤ 18000 ∧ b ≤ 18000 then some (.int (PySem.W.mcPerm a b)) else none
  | _ => none
theorem ln_perm : LNok K rPerm fPerm := by
  intro F H vs ds z Q s hv hf k
  unfold fPerm at hf
  split at hf
  · split at hf
    · rename_i hc
      cases hf
      obtain ⟨v, u, rfl, h1, h2⟩ := vw2 hv
      exact ⟨_, _, by rw [h1.int, h2.int], hc.1, hc.2.1, hc.2.2.1, hc.2.2.2, k _ F H (Xt.refl s) (.int _)⟩
    · cases hf
  · cases hf
def fFac : List PyData → Option PyData
  | [.int a] => if 0 ≤ a ∧ a ≤ 18000 then some (.int ((Builtin.Math.factorialNat a.toNat : Nat) : Int)) else none
  | _ => none
theorem ln_fac : LNok K rFac fFac := by
  intro F H vs ds z Q s hv hf k
  unfold fFac at hf
  split at hf
  · split at hf
    · rename_i hc
      cases hf
      obtain ⟨v, rfl, h1⟩ := vw1 hv
      exact ⟨_, by rw [h1.int], hc.1, hc.2, k _ F H (Xt.refl s) (.int _)⟩
    · cases hf
  · cases hf
def fGcd : List PyData → Option PyData
  | [.int a, .int b] => some (.int ((Nat.gcd a.natAbs b.natAbs : Nat) : Int))
  | _ => none
theorem ln_gcd : LNok K rGcd fGcd := by
  intro F H vs ds z Q s hv hf k
  unfold fGcd at hf
  split at hf
  · cases hf
    obtain ⟨v, u, rfl, h1, h2⟩ := vw2 hv
    exact ⟨_, _, by rw [h1.int, h2.int], k _ F H (Xt.refl s) (.int _)⟩
  · cases hf
end
/-! ### -e -/
def sNeg (f : SE) : SE := fun ρ => match f ρ with
  | some (.d (.int i), ρ1) => some (.d (.int (-i)), ρ1)
  | _ => none
section
variable {c : Co} {X : Cx}
theorem eo_negE {a : Expr} {pos : Pos} {f : SE} (ha : EO c X a f) : EO c X (.UnaryOp .USub a pos) (sNeg f) := by
  refine ⟨pe_imp (pe_un un_neg ha.pe) fun σ H Q ⟨F, ρ, y, ρ', R, e, k⟩ => ?_⟩
  unfold sNeg at e
  split at e
  · rename_i i ρ1 e1
    cases e
    refine ⟨F, ρ, _, _, R, e1, fun v H1 F1 s1 R1 o1 => ?_⟩
    cases o1
    exact ⟨i, rfl, k _ H1 F1 s1 R1 (.int _)⟩
  · cases e
/-! ### x += e -/
def sAug (i : Nat) (g : Int → Int → Int) (f : SE) : SS := fun ρ => match ρ[i]? with
  | some (.dat (.int a)) => match f ρ with
    | some (.d (.int b), ρ1) => some (.nx, ρ1.set i (.dat (.int (g a b))))
    | _ => none
  | _ => none
theorem es_aug {i : Nat} {g : Int → Int → Int} {f : SE} {e : Expr} {st : Stmt} (h : ∀ {te : TE}, PE X e te → PS X st (tAug i te (rI0 fun a b => .int (g a b)))) (he : EO c X e f) : ES c X st (sAug i g f) := by
  refine ⟨ps_imp (h he.pe) fun D σ H ⟨F, ρ, fl, ρ', R, q, k⟩ => ?_⟩
  unfold sAug at q
  split at q
  · rename_i a e0
    split at q
    · rename_i b ρ1 e1
      cases q
      obtain ⟨x, ex, dx⟩ := R.sl i _ e0
      cases dx
      refine ⟨_, vAt_eq ex, F, ρ, _, _, R, e1, fun v H1 F1 s1 R1 o1 => ?_⟩
      cases o1
      exact ⟨a, b, rfl, rfl, k _ H1 F1 s1 (R1.set (.int _))⟩
    · cases q
  · cases q
end
/-! ### a def with defaults, all of its arguments given -/
structure Dd (K : PySem.W.Frag) (mg : Str → Option Value) (x : Str) (st : Stmt) (ps : List Str) (f : Addr) (fd : FuncData) (dvs : List V) : Prop where
  ex : ∃ (oc : Value) (od : Option Addr) (dV kV doc pm : Value) (an : Option Addr) (cdv ct : Value) (osl : Array (Option Value)),
    fd = PySem.W.fnOf x x (defArgs st) (defBody st) (defScope st) dV kV doc pm an cdv ct ∧ K.lookup f = some ⟨oc, od, .func fd, osl⟩ ∧ PySem.W.codeIn K cdv x = true
  kp : PySem.W.keepIn K (.ref f) = true
  mg : mg x = some (.ref f)
  b : Binds K fd ps []
  bd : ∃ ds, Vals dvs ds ∧ Binds K fd ps ds
theorem Dd.pure {K : PySem.W.Frag} {T : List Addr} {P : Program} {w : World} {mg : Str → Option Value} {base : Heap} {x : Str} {st : Stmt} {ps : List Str} {f : Addr} {fd : FuncData} {N : List Str} {k : Nat} {dvs : List V} (D : Dd K mg x st ps f fd dvs) (S : FnScope N ps (defScope st)) (g : SS) (hnp : ps.length ≤ N.length)
    (hb : ∀ (cdv : Value) (A : Around) (outer : List Env) (s : Shared) (H : Hp) (E : XK) (H0 F0 : Hp) (io : List Addr), Room k (A.deeper (envOfC x (defScope st) s.heap.objs.size f cdv)) →
      ESs ⟨K, T, H0, F0, io, []⟩ (cxOf CX0 P w K mg base N x (defScope st) f cdv A outer s H E).nox (defBody st) g) :
    FnOk P w K mg base CX0 (k + 1) f fd ps (spP K T (fun ds => if ds.length = ps.length then bodyP g N.length ds else none)) := by
  obtain ⟨oc, od, dV, kV, doc, pm, an, cdv, ct, osl, rfl, l, cd⟩ := D.ex
  exact fn_pureC l cd S g hnp (hb cdv)
theorem withDd {Z : Prop} {dvs : List V} {K : PySem.W.Frag} {h : Heap} {mg : Str → Option Value} {x : Str} {st : Stmt} {ps : List Str} {f Td : Addr} {oc kV doc pm cd ct : Value} {od an : Option Addr} {osl : Array (Option Value)} {ob : Obj} {items : Array Value} {n : Nat} (X : K.In h) (G : h.Ns mainGlobals mg)
    (a : PySem.W.nsIn K mainGlobals x = some (some (.ref f))) (l : K.lookup f = some ⟨oc, od, .func (PySem.W.fnOf x x (defArgs st) (defBody st) (defScope st) (.ref Td) kV doc pm an cd ct), osl⟩) (c : PySem.W.codeIn K cd x = true) (k : PySem.W.keepIn K (.ref f) = true)
    (lt : K.lookup Td = some ob) (hs : ob.data = .seq items n)
    (b : ∀ (kV doc pm : Value) (an : Option Addr) (cdv ct : Value) (us : List Value), us.length = ps.length → ∃ g, bindArgs (PySem.W.fnOf x x (defArgs st) (defBody st) (defScope st) (.ref Td) kV doc pm an cdv ct) ⟨us, []⟩ = seqItems? (.ref Td) >>= g ∧ g (some items) = pure (ps.zip us))
    (hv : Vals dvs items.toList)
    (b2 : ∀ (kV doc pm : Value) (an : Option Addr) (cdv ct : Value) (us : List Value), (us ++ items.toList).length = ps.length → ∃ g, bindArgs (PySem.W.fnOf x x (defArgs st) (defBody st) (defScope st) (.ref Td) kV doc pm an cdv ct) ⟨us, []⟩ = seqItems? (.ref Td) >>= g ∧ g (some items) = pure (ps.zip (us ++ items.toList)))
    (next : ∀ f fd, Dd K mg x st ps f fd dvs → Z) : Z := by
  refine next f _ ⟨⟨oc, od, .ref Td, kV, doc, pm, an, cd, ct, osl, rfl, l, c⟩, k, PySem.W.mg_of X G a, fun s us KX hl => ?_, ⟨_, hv, fun s us KX hl => ?_⟩⟩
  rotate_left
  · obtain ⟨g, h1, h2⟩ := b2 kV doc pm an cd ct us hl
    exact PySem.W.binds_K KX rfl lt hs h1 h2
  rw [List.append_nil] at hl ⊢
  obtain ⟨g, h1, h2⟩ := b kV doc pm an cd ct us hl
  exact PySem.W.binds_K KX rfl lt hs h1 h2
end PD

/-! Plain data: isinstance of two classes, x.extend(t), a def that calls itself -/
namespace PD
open PySem PySem.Spec PyProof.Rows L2 GxR LG
section
variable {c : Co} {X : Cx}
def sIsi2 (T U : String) (f : SE) : SE := fun ρ => match f ρ with
  | some (x, ρ1) => ((res ρ1 x).bind plD).map fun d => (.d (.bool (isSub (tyName d) T || isSub (tyName d) U)), ρ1)
  | none => none
theorem eo_isi2 {a ce : Expr} {T U : String} {f : SE} (hK : X.K = c.K) (hT : T ∈ ["int", "bool", "str", "list", "tuple"]) (hU : U ∈ ["int", "bool", "str", "list", "tuple"])
    (h : ∀ {te : TE}, PE X a te → PE X ce (tCB (rIsiT X.K) (tCons te (tCons (tTup (tCons (tC (.ty T)) (tCons (tC (.ty U)) tNil))) tNil)))) (ha : EO c X a f) : EO c X ce (sIsi2 T U f) := by
  refine ⟨pe_imp (h ha.pe) fun σ H Q ⟨F, ρ, x, ρ', R, e, k⟩ => ?_⟩
  unfold sIsi2 at e
  cases e1 : f ρ with
  | none => rw [e1] at e; cases e
  | some p =>
    obtain ⟨y, ρ1⟩ := p
    rw [e1] at e
    obtain ⟨d, e2, e3⟩ := Option.map_eq_some_iff.mp e
    cases e3
    obtain ⟨d', e5, e4⟩ := Option.bind_eq_some_iff.mp e2
    obtain ⟨rfl, nd⟩ := plD_use e4
    refine ⟨F, ρ, y, _, R, e1, fun v H1 F1 s1 R1 o1 => ?_⟩
    refine ⟨by show 2 ≤ sizeLine; rw [sizeLine_eq]; omega, fun p hp => ?_⟩
    have dd := (R1.vw o1 e5).dp R1.sub
    have xt := Xt.raw (o := .tup [.ty T, .ty U]) R1.sub hp
    have dd2 := dp_same xt.h dd
    have q1 := kit_all (K := c.K) hT _ nd
    have q2 := kit_all (K := c.K) hU _ nd
    rw [hK]
    refine ⟨v, p, [.ty T, .ty U], _, [.type T, .type U], _, rfl, upd_same, .cons (.ty T) (.cons (.ty U) .nil), dp_ty dd2 nd, ?_, k _ _ F1 s1 (R1.xt xt) (.bl _)⟩
    unfold PySem.W.kitAny
    rw [q1]
    cases isSub (tyName d') T with
    | true => rfl
    | false =>
      dsimp only
      unfold PySem.W.kitAny
      rw [q2]
      cases isSub (tyName d') U <;> rfl
end
section
variable {X : Cx}
/-- l.extend(t), t a tuple that bears nothing else -/
def rExtT (K : PySem.W.Frag) : V → List V → Hp → VK → Prop := fun x vs H Q => ∃ l b xs zs, x = .ref l ∧ vs = [.ref b] ∧ H l = some (.lst xs) ∧ SqT K H b zs ∧
  ((∃ o ws, H b = some (.frz o (.tup ws)) ∧ PlT o) ∨ ∃ o, K.lookup b = some o ∧ o.cls = .type "tuple" ∧ PlT o) ∧ xs.length + zs.length ≤ 1000000 ∧ Q .non (upd H l (.lst (xs ++ zs)))
theorem mt_extT : MtR X "list.extend" (rExtT X.K) := by
  intro pins s σ H x vs v us Q I rx rv h
  obtain ⟨l, b, xs, zs, rfl, rfl, hH, hB, hp, hz, wish⟩ := h
  cases rx
  obtain ⟨u, rfl, ru⟩ := rv.one
  cases ru
  obtain ⟨_, its, n, r, hl, el⟩ := I.lstM hH
  obtain ⟨items, r2, ⟨ob, eb, hc, n2, hd⟩, _⟩ := I.tuple hB
  have pl : PlT ob := by
    rcases hp with ⟨o, ws, e, d⟩ | ⟨o, e, _, d⟩
    · have e2 := (show ObjOk X.prog X.w H s.heap b (.frz o (.tup ws)) from I.hok b _ e).1
      rw [eb] at e2
      cases e2
      exact d
    · have e2 := I.kIn b o e
      rw [eb] at e2
      cases e2
      exact d
  obtain ⟨cls, dct, data, sl⟩ := ob
  obtain ⟨p1, p2⟩ := pl
  replace hc : cls = .type "tuple" := hc
  replace hd : data = .seq items.toArray n2 := hd
  replace p1 : dct = none := p1
  replace p2 : sl = #[] := p2
  subst hc hd p1 p2
  have l2 := r2.length
  have line := sizeLine_eq
  have fits : its.toArray.size + items.toArray.size ≤ sizeLine := by rw [List.size_toArray, List.size_toArray]; omega
  have short : ¬ (!its.toArray.isEmpty && Builtin.List.listTooLong (its.toArray.size + items.toArray.size)) = true := by
    rw [notLongL fits, Bool.and_false]
    exact Bool.false_ne_true
  refine call_meets F.slot_list_extend ⟨_, el, rfl⟩ F.entry_list_extend (F.args_list_extend_2 _ _)
    (AutoSeq1.list_extend_list_tuple_0 l its.toArray n b items.toArray n2 short (by rw [List.size_toArray]; omega) (by omega)) ⟨el, eb, ?_⟩
  refine ⟨.non, _, I.lset (its' := its ++ items) hH el (by simp) (r.append r2) ?_, rfl, wish⟩
  rw [List.length_append]
  omega
end
section
variable {c : Co} {X : Cx}
def sExtT (i : Nat) (f : SE) : SS := fun ρ => match cont? ρ i with
  | none => none
  | some _ => match f ρ with
    | some (.d (.tuple ys), ρ1) => match cont? ρ1 i with
      | some ds => if ds.length + ys.length ≤ 1000000 then some (.nx, setCont ρ1 i (ds ++ ys)) else none
      | none => none
    | _ => none
theorem es_extT (i : Nat) {f : SE} {e : Expr} {st : Stmt} (hK : X.K = c.K) (h : ∀ {te : TE}, PE X e te → PS X st (tDrop (tBM X.K "list" (rExtT X.K) (tVar i) (tCons te tNil)))) (he : EO c X e f) : ES c X st (sExtT i f) := by
  refine ⟨ps_imp (h he.pe) fun D σ H ⟨F, ρ, fl, ρ', R, e, k⟩ => ?_⟩
  unfold sExtT at e
  cases e0 : cont? ρ i with
  | none => rw [e0] at e; cases e
  | some rs0 =>
    rw [e0] at e
    dsimp only at e
    obtain ⟨r, ws, v0, v1, v2, v3, v4⟩ := cont_at R e0
    split at e
    · rename_i ys ρ1 e1
      cases e2 : cont? ρ1 i with
      | none => rw [e2] at e; cases e
      | some ds =>
        rw [e2] at e
        dsimp only at e
        split at e
        · rename_i hn
          cases e
          refine ⟨.ref r, vAt_eq v0, .inl ⟨rfl, ws, .inl (.inl v1)⟩, F, ρ, _, ρ1, R, e1, fun v H1 F1 s1 R1 o1 => ?_⟩
          obtain ⟨r1, ws1, w0, w1, w2, w3, w4⟩ := cont_at R1 e2
          rw [v0] at w0
          cases w0
          cases o1 with
          | tup hq hd =>
            rw [hK]
            refine ⟨r, _, ws1, _, rfl, rfl, w1, sqT_same R1.sub hq, ?_, by rw [dpAll_len w2, dpAll_len hd]; exact hn, k σ _ F1 s1 (R1.put e2 v0 w3 w4 (dpAll_app w2 hd))⟩
            rcases R1.tf.dict hq with ⟨o, z1, z2⟩ | z1
            · exact .inl ⟨o, _, R1.sub _ _ z1, z2⟩
            · exact .inr z1
        · cases e
    · cases e
end
/-- nothing is promised -/
theorem ok_none {K : PySem.W.Frag} {T : List Addr} {P : Program} {w : World} {mg : Str → Option Value} {base : Heap} {x qual : Str} {st : Stmt} {f : Addr} {fd : FuncData} {N ps : List Str} (Fu : Fun K x qual st f fd) (S : FnScope N ps (defScope st)) :
    FnOk P w K mg base CX0 1 f fd ps (spP K T fun _ => none) := by
  refine Fu.ok S (fun vs H Q E h => ?_) (fun cdv A outer s H vs Q E hr h => ?_)
  · obtain ⟨F, ds, d, _, _, _, _, e, _⟩ := h
    cases e
  · obtain ⟨F, ds, d, _, _, _, _, e, _⟩ := h
    cases e
end PD

/-! zip of two sequences, each a tuple or a list -/
namespace ZIP
open PySem PySem.Spec PyProof.Rows L2
/-- the class of a sequence, and of what walks it: a tuple (true), a list (false) -/
def nm : Bool → String | true => "tuple" | false => "list"
def nmI : Bool → String | true => "tuple_iterator" | false => "list_iterator"
def SeqK (k : Bool) (h : Heap) (a : Addr) (items : Array Value) : Prop := ∃ o, h.get? a = some o ∧ o.cls = .type (nm k) ∧ ∃ n, o.data = .seq items n
def ItrK (k : Bool) (h : Heap) (a l : Addr) (i : Nat) : Prop := ∃ o, h.get? a = some o ∧ o.cls = .type (nmI k) ∧ o.data = .fields #[.ref l, .int i 0]
theorem SeqK.at {k : Bool} {h h' : Heap} {a : Addr} {items : Array Value} (x : SeqK k h a items) (e : ∀ o, h.get? a = some o → h'.get? a = some o) : SeqK k h' a items := let ⟨o, ho, r⟩ := x; ⟨o, e _ ho, r⟩
theorem ItrK.at {k : Bool} {h h' : Heap} {a l : Addr} {i : Nat} (x : ItrK k h a l i) (e : ∀ o, h.get? a = some o → h'.get? a = some o) : ItrK k h' a l i := let ⟨o, ho, r⟩ := x; ⟨o, e _ ho, r⟩
theorem SeqK.ext {k : Bool} {h h' : Heap} {a b : Addr} {items : Array Value} (x : SeqK k h a items) (hs : Heap.ExtBut b h h') (n : a ≠ b) : SeqK k h' a items := x.at fun _ e => hs _ _ n e
theorem ItrK.ext {k : Bool} {h h' : Heap} {a b l : Addr} {i : Nat} (x : ItrK k h a l i) (hs : Heap.ExtBut b h h') (n : a ≠ b) : ItrK k h' a l i := x.at fun _ e => hs _ _ n e
theorem ItrK.lt {k : Bool} {h : Heap} {a l : Addr} {i : Nat} (x : ItrK k h a l i) : a < h.objs.size := let ⟨_, ho, _⟩ := x; Heap.lt_size ho
theorem SeqK.lt {k : Bool} {h : Heap} {a : Addr} {items : Array Value} (x : SeqK k h a items) : a < h.objs.size := let ⟨_, ho, _⟩ := x; Heap.lt_size ho
section
variable {prog : Program} {w : World} {A : Around} {E : Value → Shared → Prop} {s : Shared}
theorem next_item {it l : Addr} {i : Nat} {items : Array Value} {x : Value} {Q : Value → Shared → Prop} : ∀ {k : Bool}, ItrK k s.heap it l i → SeqK k s.heap l items → items[i]? = some x →
    (∀ h', ItrK k h' it l (i + 1) → Heap.SameBut it s.heap h' → Q x { s with heap := h' }) → wpAny (model prog w) A (Builtin.SmallTypes.nextOf (.ref it)) Q E s
  | true, hit, hl, hx, hQ => RZ.nextOf_tuple_item hit hl hx hQ
  | false, hit, hl, hx, hQ => wpAny_nextOf_list_item hit hl hx hQ
theorem next_end {it l : Addr} {i : Nat} {items : Array Value} {Q : Value → Shared → Prop} (hh : A.handled = none) : ∀ {k : Bool}, ItrK k s.heap it l i → SeqK k s.heap l items → items[i]? = none →
    (∀ h' e, Heap.ExtBut it s.heap h' → (∃ o, h'.get? e = some o ∧ o.cls = .type "StopIteration") → E (.ref e) { s with heap := h' }) → wpAny (model prog w) A (Builtin.SmallTypes.nextOf (.ref it)) Q E s
  | true, hit, hl, hx, hE => RZ.nextOf_tuple_end hh hit hl hx hE
  | false, hit, hl, hx, hE => wpAny_nextOf_list_end hh hit hl hx hE
theorem zip_item {k1 k2 : Bool} {z TI TO i1 i2 l1 l2 : Addr} {n1 n2 : Nat} {xs ys : Array Value} {x y a b : Value} {Q : Value → Shared → Prop} (D : ZipApart z TI TO i1 i2 l1 l2)
    (hz : IsZip s.heap z TI TO .none) (hTI : IsPair s.heap TI (.ref i1) (.ref i2)) (hTO : IsPair s.heap TO a b)
    (h1 : ItrK k1 s.heap i1 l1 n1) (h2 : ItrK k2 s.heap i2 l2 n2) (q1 : SeqK k1 s.heap l1 xs) (q2 : SeqK k2 s.heap l2 ys) (hx : xs[n1]? = some x) (hy : ys[n2]? = some y)
    (hQ : ∀ h', IsZip h' z TI TO (rawInt s.heap.objs.size) → IsPair h' TO x y → ItrK k1 h' i1 l1 (n1 + 1) → ItrK k2 h' i2 l2 (n2 + 1) → IsPair h' s.heap.objs.size x y → h'.objs.size = s.heap.objs.size + 1 →
      (∀ c o, c ≠ z → c ≠ TO → c ≠ i1 → c ≠ i2 → s.heap.get? c = some o → h'.get? c = some o) → Q (.ref s.heap.objs.size) { s with heap := h' }) :
    wpAny (model prog w) A (Builtin.«zip.__next__» ⟨[.ref z], []⟩) (fun fin s' => ∃ v, fin = .done (.ret v) ∧ Q v s') E s := by
  show wpAny _ _ (field (.ref z) 2 >>= _) _ _ _
  refine wpAny_bind (wpAny_field hz rfl (x := .bool false) rfl ?_)
  show wpAny _ _ (field (.ref z) 3 >>= _) _ _ _
  refine wpAny_bind (wpAny_field hz rfl (x := .ref TI) rfl (wpAny_bind (wpAny_seqItems hTI rfl ?_)))
  show wpAny _ _ (Builtin.SmallTypes.ownedTupleIsFree (.ref z) >>= _) _ _ _
  refine wpAny_bind ?_
  unfold Builtin.SmallTypes.ownedTupleIsFree
  refine wpAny_bind (wpAny_field hz rfl (x := .none) rfl (wpAny_pure ?_))
  simp only [if_true]
  refine wpAny_bind (wpAny_rule (wpAny_bind (wpAny_field hz rfl (x := .ref TO) rfl (wpAny_bind (wpAny_setField_rec hz (by simp) fun Ha za sa => ?_)))))
  replace za : IsZip Ha z TI TO .ellipsis := za
  refine wpAny_bind ?_
  simp only [List.zipIdx_cons, List.zipIdx_nil, List.forIn_cons, List.forIn_nil]
  refine wpAny_bind (wpAny_bind (wpAny_onRaise ?_))
  show wpAny _ _ (Builtin.SmallTypes.nextOf (.ref i1) >>= _) _ _ _
  refine wpAny_bind (next_item (h1.ext sa.extBut D.i1z) (q1.ext sa.extBut D.l1z) hx fun Hb ib sb => wpAny_pure ?_)
  have ob : IsPair Hb TO a b := sb.extBut _ _ D.TOi1 (sa.extBut _ _ D.TOz hTO)
  refine wpAny_bind (wpAny_seqItems ob rfl (wpAny_bind (wpAny_updateSeq_pair ob fun Hc oc sc => ?_)))
  replace oc : IsPair Hc TO x b := oc
  refine wpAny_bind (wpAny_letGo (wpAny_pure (wpAny_bind (wpAny_bind (wpAny_onRaise ?_)))))
  show wpAny _ _ (Builtin.SmallTypes.nextOf (.ref i2) >>= _) _ _ _
  refine wpAny_bind (next_item (((h2.ext sa.extBut D.i2z).ext sb.extBut D.i12.symm).ext sc.extBut D.TOi2.symm)
    (((q2.ext sa.extBut D.l2z).ext sb.extBut D.l2i1).ext sc.extBut D.l2TO) hy fun Hd id_ sd => wpAny_pure ?_)
  have od : IsPair Hd TO x b := sd.extBut _ _ D.TOi2 oc
  refine wpAny_bind (wpAny_seqItems od rfl (wpAny_bind (wpAny_updateSeq_pair od fun He oe se => ?_)))
  replace oe : IsPair He TO x y := oe
  refine wpAny_bind (wpAny_letGo (wpAny_pure (wpAny_pure (wpAny_bind (wpAny_seqItems oe rfl (wpAny_bind (wpAny_newTuple ?_)))))))
  have size : He.objs.size = s.heap.objs.size := by rw [se.1, sd.1, sc.1, sb.1, sa.1]
  have ze : IsZip He z TI TO .ellipsis := se.extBut _ _ D.TOz.symm (sd.extBut _ _ D.i2z.symm (sc.extBut _ _ D.TOz.symm (sb.extBut _ _ D.i1z.symm za)))
  have keep : ∀ c o, c ≠ z → c ≠ TO → c ≠ i1 → c ≠ i2 → s.heap.get? c = some o → He.get? c = some o := fun c o c1 c2 c3 c4 e =>
    se.extBut _ _ c2 (sd.extBut _ _ c4 (sc.extBut _ _ c2 (sb.extBut _ _ c3 (sa.extBut _ _ c1 e))))
  have ie : ItrK k1 He i1 l1 (n1 + 1) := ((ib.ext sc.extBut D.TOi1.symm).ext sd.extBut D.i12).ext se.extBut D.TOi1.symm
  have je : ItrK k2 He i2 l2 (n2 + 1) := id_.ext se.extBut D.TOi2.symm
  have zlt : z < He.objs.size := Heap.lt_size ze
  show wpAny _ _ (Builtin.SmallTypes.ownedTupleHandOut (.ref z) (.ref He.objs.size) >>= _) _ _ _
  refine wpAny_bind ?_
  unfold Builtin.SmallTypes.ownedTupleHandOut
  have zf : IsZip (He.push { cls := .type "tuple", data := .seq #[x, y] }) z TI TO .ellipsis := Heap.get?_push_of_some _ ze
  refine wpAny_bind (wpAny_setField_rec zf (by simp) fun Hg zg sg => ?_)
  replace zg : IsZip Hg z TI TO (rawInt He.objs.size) := zg
  refine wpAny_setField_rec zg (by simp) fun Hh zh sh => ?_
  replace zh : IsZip Hh z TI TO (rawInt He.objs.size) := zh
  have up : ∀ c o, c ≠ z → He.get? c = some o → Hh.get? c = some o := fun c o c1 e => sh.extBut _ _ c1 (sg.extBut _ _ c1 (Heap.get?_push_of_some _ e))
  have tH : IsPair Hh He.objs.size x y := sh.extBut _ _ (Nat.ne_of_gt zlt) (sg.extBut _ _ (Nat.ne_of_gt zlt) (Heap.get?_push_size _ rfl))
  have zs : Hh.objs.size = He.objs.size + 1 := by rw [sh.1, sg.1, Heap.size_push]
  rw [size] at zh tH zs
  refine wpAny_pure ⟨_, rfl, ?_⟩
  show Q (.ref He.objs.size) _
  rw [size]
  exact hQ Hh zh (up _ _ D.TOz oe) (ie.at fun o e => up _ o D.i1z e) (je.at fun o e => up _ o D.i2z e) tH zs fun c o c1 c2 c3 c4 e => up c o c1 (keep c o c1 c2 c3 c4 e)
theorem zip_end {k1 k2 : Bool} {z TI TO i1 i2 l1 l2 : Addr} {n1 n2 : Nat} {xs ys : Array Value} {a b : Value} {Q : Fin → Shared → Prop} (hh : A.handled = none) (D : ZipApart z TI TO i1 i2 l1 l2)
    (hz : IsZip s.heap z TI TO .none) (hTI : IsPair s.heap TI (.ref i1) (.ref i2)) (hTO : IsPair s.heap TO a b)
    (h1 : ItrK k1 s.heap i1 l1 n1) (h2 : ItrK k2 s.heap i2 l2 n2) (q1 : SeqK k1 s.heap l1 xs) (q2 : SeqK k2 s.heap l2 ys) (hend : xs[n1]? = none ∨ ys[n2]? = none)
    (hE : ∀ h' e, (∀ c o, c ≠ z → c ≠ TO → c ≠ i1 → c ≠ i2 → s.heap.get? c = some o → h'.get? c = some o) → (∃ o, h'.get? e = some o ∧ o.cls = .type "StopIteration") → E (.ref e) { s with heap := h' }) :
    wpAny (model prog w) A (Builtin.«zip.__next__» ⟨[.ref z], []⟩) Q E s := by
  show wpAny _ _ (field (.ref z) 2 >>= _) _ _ _
  refine wpAny_bind (wpAny_field hz rfl (x := .bool false) rfl ?_)
  show wpAny _ _ (field (.ref z) 3 >>= _) _ _ _
  refine wpAny_bind (wpAny_field hz rfl (x := .ref TI) rfl (wpAny_bind (wpAny_seqItems hTI rfl ?_)))
  show wpAny _ _ (Builtin.SmallTypes.ownedTupleIsFree (.ref z) >>= _) _ _ _
  refine wpAny_bind ?_
  unfold Builtin.SmallTypes.ownedTupleIsFree
  refine wpAny_bind (wpAny_field hz rfl (x := .none) rfl (wpAny_pure ?_))
  simp only [if_true]
  refine wpAny_bind (wpAny_rule (wpAny_bind (wpAny_field hz rfl (x := .ref TO) rfl (wpAny_bind (wpAny_setField_rec hz (by simp) fun Ha za sa => ?_)))))
  replace za : IsZip Ha z TI TO .ellipsis := za
  refine wpAny_bind ?_
  simp only [List.zipIdx_cons, List.zipIdx_nil, List.forIn_cons, List.forIn_nil]
  refine wpAny_bind (wpAny_bind (wpAny_onRaise ?_))
  show wpAny _ _ (Builtin.SmallTypes.nextOf (.ref i1) >>= _) _ _ _
  cases hx : xs[n1]? with
  | none =>
    refine wpAny_bind (next_end hh (h1.ext sa.extBut D.i1z) (q1.ext sa.extBut D.l1z) hx fun Hb e sb he => ?_)
    obtain ⟨oe, hoe, hce⟩ := he
    have zb : IsZip Hb z TI TO .ellipsis := sb _ _ D.i1z.symm za
    have ne : e ≠ z := fun x => by subst x; rw [zb] at hoe; cases hoe; simp at hce
    exact wpAny_setField_rec zb (by simp) fun Hc _ sc => hE Hc e (fun c o c1 _ c3 _ x => sc.extBut _ _ c1 (sb _ _ c3 (sa.extBut _ _ c1 x))) ⟨oe, sc.extBut _ _ ne hoe, hce⟩
  | some x =>
    have hy : ys[n2]? = none := by rcases hend with h | h; rw [hx] at h; cases h; exact h
    refine wpAny_bind (next_item (h1.ext sa.extBut D.i1z) (q1.ext sa.extBut D.l1z) hx fun Hb ib sb => wpAny_pure ?_)
    have ob : IsPair Hb TO a b := sb.extBut _ _ D.TOi1 (sa.extBut _ _ D.TOz hTO)
    refine wpAny_bind (wpAny_seqItems ob rfl (wpAny_bind (wpAny_updateSeq_pair ob fun Hc oc sc => ?_)))
    refine wpAny_bind (wpAny_letGo (wpAny_pure (wpAny_bind (wpAny_bind (wpAny_onRaise ?_)))))
    show wpAny _ _ (Builtin.SmallTypes.nextOf (.ref i2) >>= _) _ _ _
    refine wpAny_bind (next_end hh (((h2.ext sa.extBut D.i2z).ext sb.extBut D.i12.symm).ext sc.extBut D.TOi2.symm)
      (((q2.ext sa.extBut D.l2z).ext sb.extBut D.l2i1).ext sc.extBut D.l2TO) hy fun Hd e sd he => ?_)
    obtain ⟨oe, hoe, hce⟩ := he
    have zd : IsZip Hd z TI TO .ellipsis := sd _ _ D.i2z.symm (sc.extBut _ _ D.TOz.symm (sb.extBut _ _ D.i1z.symm za))
    have ne : e ≠ z := fun x => by subst x; rw [zd] at hoe; cases hoe; simp at hce
    exact wpAny_setField_rec zd (by simp) fun He _ se => hE He e (fun c o c1 c2 c3 c4 x => se.extBut _ _ c1 (sd _ _ c4 (sc.extBut _ _ c2 (sb.extBut _ _ c3 (sa.extBut _ _ c1 x))))) ⟨oe, se.extBut _ _ ne hoe, hce⟩
theorem py_item {k1 k2 : Bool} {z TI TO i1 i2 l1 l2 : Addr} {n1 n2 : Nat} {xs ys : Array Value} {x y a b : Value} {Q : Option Value → Shared → Prop} (D : ZipApart z TI TO i1 i2 l1 l2)
    (hz : IsZip s.heap z TI TO .none) (hTI : IsPair s.heap TI (.ref i1) (.ref i2)) (hTO : IsPair s.heap TO a b)
    (h1 : ItrK k1 s.heap i1 l1 n1) (h2 : ItrK k2 s.heap i2 l2 n2) (q1 : SeqK k1 s.heap l1 xs) (q2 : SeqK k2 s.heap l2 ys) (hx : xs[n1]? = some x) (hy : ys[n2]? = some y)
    (hQ : ∀ h', IsZip h' z TI TO (rawInt s.heap.objs.size) → IsPair h' TO x y → ItrK k1 h' i1 l1 (n1 + 1) → ItrK k2 h' i2 l2 (n2 + 1) → IsPair h' s.heap.objs.size x y → h'.objs.size = s.heap.objs.size + 1 →
      (∀ c o, c ≠ z → c ≠ TO → c ≠ i1 → c ≠ i2 → s.heap.get? c = some o → h'.get? c = some o) → Q (some (.ref s.heap.objs.size)) { s with heap := h' }) :
    wpAny (model prog w) A (pyNext (.ref z)) Q E s := by
  have hT : s.TypeIs (.ref z) "zip" := ⟨_, hz, rfl⟩
  unfold pyNext
  exact wpAny_bind (wpAny_attempt (wpAny_callSpecial?_slot (name := Str.ofString "__next__") hT F.slot_zip_next
    (wpAny_call_entry F.slot_zip_next hT F.entry_zip_next
      (zip_item D hz hTI hTO h1 h2 q1 q2 hx hy fun h' a1 a2 a3 a4 a5 a6 a7 => wpAny_pure (hQ h' a1 a2 a3 a4 a5 a6 a7)) (F.args_zip_next_1 _))))
theorem py_end {k1 k2 : Bool} {z TI TO i1 i2 l1 l2 : Addr} {n1 n2 : Nat} {xs ys : Array Value} {a b : Value} {Q : Option Value → Shared → Prop} (hh : A.handled = none) (D : ZipApart z TI TO i1 i2 l1 l2)
    (hz : IsZip s.heap z TI TO .none) (hTI : IsPair s.heap TI (.ref i1) (.ref i2)) (hTO : IsPair s.heap TO a b)
    (h1 : ItrK k1 s.heap i1 l1 n1) (h2 : ItrK k2 s.heap i2 l2 n2) (q1 : SeqK k1 s.heap l1 xs) (q2 : SeqK k2 s.heap l2 ys) (hend : xs[n1]? = none ∨ ys[n2]? = none)
    (hQ : ∀ h', (∀ c o, c ≠ z → c ≠ TO → c ≠ i1 → c ≠ i2 → s.heap.get? c = some o → h'.get? c = some o) → Q none { s with heap := h' }) : wpAny (model prog w) A (pyNext (.ref z)) Q E s := by
  have hT : s.TypeIs (.ref z) "zip" := ⟨_, hz, rfl⟩
  unfold pyNext
  refine wpAny_bind (wpAny_attempt (wpAny_callSpecial?_slot (name := Str.ofString "__next__") hT F.slot_zip_next
    (wpAny_call_entry F.slot_zip_next hT F.entry_zip_next (zip_end hh D hz hTI hTO h1 h2 q1 q2 hend fun h' e hk he => ?_) (F.args_zip_next_1 _))))
  obtain ⟨o, ho, hc⟩ := he
  exact wpAny_bind (wpAny_isInstance (T := "StopIteration") (b := true) ⟨o, ho, hc⟩ isSubtype_stop (wpAny_pure (hQ _ hk)))
end

abbrev hp1 (k1 : Bool) (h : Heap) (l1 : Addr) : Heap := h.push { cls := .type (nmI k1), data := .fields #[.ref l1, .int 0 0] }
abbrev hp2 (k1 k2 : Bool) (h : Heap) (l1 l2 : Addr) : Heap := (hp1 k1 h l1).push { cls := .type (nmI k2), data := .fields #[.ref l2, .int 0 0] }
abbrev hp3 (k1 k2 : Bool) (h : Heap) (l1 l2 : Addr) : Heap := (hp2 k1 k2 h l1 l2).push { cls := .type "tuple", data := .seq #[.ref h.objs.size, .ref (hp1 k1 h l1).objs.size] }
abbrev hp4 (k1 k2 : Bool) (h : Heap) (l1 l2 : Addr) : Heap := (hp3 k1 k2 h l1 l2).push { cls := .type "tuple", data := .seq #[.none, .none] }
abbrev hp5 (k1 k2 : Bool) (h : Heap) (l1 l2 : Addr) : Heap := (hp4 k1 k2 h l1 l2).push { cls := .type "zip", data := .fields #[.none, .bool false, .bool false, .ref (hp2 k1 k2 h l1 l2).objs.size, .ref (hp3 k1 k2 h l1 l2).objs.size] }
theorem meets_mixed (l1 l2 : Addr) (xs ys : Array Value) :
    Meets (Builtin.«zip.__new__» ⟨[.type "zip", .ref l1, .ref l2], []⟩) (fun _ R s => s.heap.IsTuple l1 xs ∧ s.heap.IsList l2 ys ∧
      R (.ok (.ret (.ref (hp4 true false s.heap l1 l2).objs.size))) { s with heap := hp5 true false s.heap l1 l2 }) :=
  .of_wp fun prog w A R s h => by
    obtain ⟨hp, g, d, tk, os⟩ := s; obtain ⟨hl1, hl2, h⟩ := h
    have hsub := sub_zip
    have hL1 : Heap.IsTuple (Shared.heap ⟨hp, g, d, tk, os⟩) l1 xs := hl1
    have hL2 : Heap.IsList (Shared.heap ⟨hp.push { cls := .type "tuple_iterator", data := .fields #[.ref l1, .int 0 0] }, g, d, tk, os⟩) l2 ys := Heap.IsList.push hl2 _
    wp_walk using wpAny_pyIter_tuple hL1, wpAny_pyIter_list hL2
    exact ⟨_, rfl, h⟩
section
variable {prog : Program} {w : World} {A : Around} {E : Value → Shared → Prop} {s : Shared}
theorem call_mixed {l1 l2 : Addr} {xs ys : Array Value} {Q : Value → Shared → Prop} (q1 : s.heap.IsTuple l1 xs) (q2 : s.heap.IsList l2 ys)
    (h : ∀ h', IsZip h' (s.heap.objs.size + 4) (s.heap.objs.size + 2) (s.heap.objs.size + 3) .none → IsPair h' (s.heap.objs.size + 2) (.ref s.heap.objs.size) (.ref (s.heap.objs.size + 1)) →
      IsPair h' (s.heap.objs.size + 3) .none .none → h'.IsTupleIter s.heap.objs.size l1 0 → h'.IsListIter (s.heap.objs.size + 1) l2 0 →
      (∀ c o, s.heap.get? c = some o → h'.get? c = some o) → Q (.ref (s.heap.objs.size + 4)) { s with heap := h' }) :
    wpAny (model prog w) A (call (.type "zip") [.ref l1, .ref l2]) Q E s := by
  refine callType_new F.called_zip (by decide) (F.typeCall_zip_2 _ _) (F.newCall_zip_2 _ _) (fun obj => F.args_object_init_3 obj _ _) F.entry_zip_new
    (meets_mixed l1 l2 xs ys) ⟨q1, q2, ?_⟩
  have s1 : (hp1 true s.heap l1).objs.size = s.heap.objs.size + 1 := Heap.size_push ..
  have s2 : (hp2 true false s.heap l1 l2).objs.size = s.heap.objs.size + 2 := by rw [Heap.size_push, s1]
  have s3 : (hp3 true false s.heap l1 l2).objs.size = s.heap.objs.size + 3 := by rw [Heap.size_push, s2]
  have s4 : (hp4 true false s.heap l1 l2).objs.size = s.heap.objs.size + 4 := by rw [Heap.size_push, s3]
  have g1 : (hp5 true false s.heap l1 l2).get? s.heap.objs.size = some _ := Heap.get?_push_of_some _ (Heap.get?_push_of_some _ (Heap.get?_push_of_some _ (Heap.get?_push_of_some _ (Heap.get?_push_size _ rfl))))
  have g2 : (hp5 true false s.heap l1 l2).get? (hp1 true s.heap l1).objs.size = some _ := Heap.get?_push_of_some _ (Heap.get?_push_of_some _ (Heap.get?_push_of_some _ (Heap.get?_push_size _ rfl)))
  have g3 : (hp5 true false s.heap l1 l2).get? (hp2 true false s.heap l1 l2).objs.size = some _ := Heap.get?_push_of_some _ (Heap.get?_push_of_some _ (Heap.get?_push_size _ rfl))
  have g4 : (hp5 true false s.heap l1 l2).get? (hp3 true false s.heap l1 l2).objs.size = some _ := Heap.get?_push_of_some _ (Heap.get?_push_size _ rfl)
  have g5 : (hp5 true false s.heap l1 l2).get? (hp4 true false s.heap l1 l2).objs.size = some _ := Heap.get?_push_size _ rfl
  show _ ∧ _
  rw [s2, s3, s4] at g5
  rw [s3] at g4
  rw [s1, s2] at g3
  rw [s1] at g2
  rw [s4]
  exact ⟨⟨_, g5, rfl⟩, h _ g5 g3 g4 ⟨_, g1, rfl, rfl⟩ ⟨_, g2, rfl, rfl⟩ fun c o x =>
    Heap.get?_push_of_some _ (Heap.get?_push_of_some _ (Heap.get?_push_of_some _ (Heap.get?_push_of_some _ (Heap.get?_push_of_some _ x))))⟩
/-- a list behind a tuple, or two of a kind -/
inductive Two : Bool → Bool → Prop | tt : Two true true | ll : Two false false | tl : Two true false
theorem call_two {k1 k2 : Bool} (T : Two k1 k2) {l1 l2 : Addr} {xs ys : Array Value} {Q : Value → Shared → Prop} (q1 : SeqK k1 s.heap l1 xs) (q2 : SeqK k2 s.heap l2 ys)
    (h : ∀ h', IsZip h' (s.heap.objs.size + 4) (s.heap.objs.size + 2) (s.heap.objs.size + 3) .none → IsPair h' (s.heap.objs.size + 2) (.ref s.heap.objs.size) (.ref (s.heap.objs.size + 1)) →
      IsPair h' (s.heap.objs.size + 3) .none .none → ItrK k1 h' s.heap.objs.size l1 0 → ItrK k2 h' (s.heap.objs.size + 1) l2 0 →
      (∀ c o, s.heap.get? c = some o → h'.get? c = some o) → Q (.ref (s.heap.objs.size + 4)) { s with heap := h' }) :
    wpAny (model prog w) A (call (.type "zip") [.ref l1, .ref l2]) Q E s := by
  cases T with
  | tt => exact RZ.call_zipT q1 q2 fun h' a b c d e _ g => h h' a b c d e g
  | ll => exact call_zip_2 q1 q2 fun h' a b c d e _ g => h h' a b c d e g
  | tl => exact call_mixed q1 q2 h
end
/-- a sequence of the heap as the shapes have it -/
def SqK (K : PySem.W.Frag) (k : Bool) (H : Hp) (a : Addr) (xs : List V) : Prop := cond k (SqT K H a xs) (SqL K H a xs)
theorem sqK_raw {X : Cx} {pins : List (Addr × Obj)} {σ : L2.St} {H : Hp} {s : Shared} (I : Inv X pins σ H s) : ∀ {k : Bool} {a : Addr} {xs : List V}, SqK X.K k H a xs → ∃ its, Vals xs its ∧ SeqK k s.heap a its.toArray
  | true, a, xs, h => by
    obtain ⟨its, rv, p, _⟩ := I.tuple h
    exact ⟨its, rv, p⟩
  | false, a, xs, h => by
    obtain ⟨its, rv, p, _⟩ := I.list h
    exact ⟨its, rv, p.isList⟩
theorem sqK_inj {X : Cx} {pins : List (Addr × Obj)} {σ : L2.St} {H : Hp} {s : Shared} (I : Inv X pins σ H s) : ∀ {k : Bool} {a : Addr} {xs ys : List V}, SqK X.K k H a xs → SqK X.K k H a ys → xs = ys
  | true, a, xs, ys, h, h' => I.tuple_inj h h'
  | false, a, xs, ys, h, h' => I.list_inj h h'
def Itz (K : PySem.W.Frag) (k1 k2 : Bool) (a b : Addr) : It :=
  ⟨fun i H => ∃ (xs ys : List V) (x y : V), SqK K k1 H a xs ∧ SqK K k2 H b ys ∧ xs[i]? = some x ∧ ys[i]? = some y,
    fun i H v H' => ∃ T x y ob, v = .ref T ∧ H T = none ∧ PD.PlT ob ∧ H' = upd H T (.frz ob (.tup [x, y])) ∧ (∀ xs, SqK K k1 H a xs → xs[i]? = some x) ∧ ∀ ys, SqK K k2 H b ys → ys[i]? = some y,
    fun i H => ∃ xs ys : List V, SqK K k1 H a xs ∧ SqK K k2 H b ys ∧ (xs.length ≤ i ∨ ys.length ≤ i)⟩
theorem turn {P : Program} {w : World} {K : PySem.W.Frag} {elts : List Expr} {kk : Nat} {tpos : Pos} {k1 k2 : Bool} {a b z TI TO i1 i2 : Addr} (D : ZipApart z TI TO i1 i2 a b) :
    Turn P w K (.Tuple elts kk tpos) (Itz K k1 k2 a b) [z, TI, TO, i1, i2] z (fun i h => IsZip h z TI TO .none ∧ IsPair h TI (.ref i1) (.ref i2) ∧ (∃ x y, IsPair h TO x y) ∧ ItrK k1 h i1 a i ∧ ItrK k2 h i2 b i) where
  mem := by simp
  obj := fun i h st c hc => by
    obtain ⟨hz, hTI, ⟨x, y, hTO⟩, ⟨o1, e1, _, d1⟩, ⟨o2, e2, _, d2⟩⟩ := st
    rcases (show c = z ∨ c = TI ∨ c = TO ∨ c = i1 ∨ c = i2 by simpa using hc) with q | q | q | q | q
    · rw [q]; exact ⟨_, hz, fun v q => nomatch q⟩
    · rw [q]; exact ⟨_, hTI, fun v q => nomatch q⟩
    · rw [q]; exact ⟨_, hTO, fun v q => nomatch q⟩
    · rw [q]; exact ⟨o1, e1, fun v q => by rw [d1] at q; cases q⟩
    · rw [q]; exact ⟨o2, e2, fun v q => by rw [d2] at q; cases q⟩
  keep := fun i h h' st k => by
    obtain ⟨hz, hTI, ⟨x, y, hTO⟩, h1, h2⟩ := st
    exact ⟨k z (by simp) _ hz, k TI (by simp) _ hTI, ⟨x, y, k TO (by simp) _ hTO⟩, h1.at fun o q => k i1 (by simp) o q, h2.at fun o q => k i2 (by simp) o q⟩
  item := by
    intro X hP hw hK hc i pins s σ H E I hf st hg
    subst hP hw hK
    obtain ⟨hz, hTI, ⟨x0, y0, hTO⟩, h1, h2⟩ := st
    obtain ⟨xs, ys, x, y, hqx, hqy, hx, hy⟩ := hg
    obtain ⟨its, rv, p⟩ := sqK_raw I hqx
    obtain ⟨its2, rv2, p2⟩ := sqK_raw I hqy
    obtain ⟨u, hu, ru⟩ := rv.get hx
    obtain ⟨u2, hu2, ru2⟩ := rv2.get hy
    have zl : z < s.heap.objs.size := Heap.lt_size hz
    refine py_item D hz hTI hTO h1 h2 p p2 (x := u) (y := u2) (by simpa using hu) (by simpa using hu2) fun h' z' TO' h1' h2' hT hsz hk => ?_
    refine ⟨_, rfl, wpAny_letOwnedTupleGo_zip (s := { s with heap := h' }) z' fun h'' z'' sb => ?_⟩
    let ob : Obj := { cls := .type "tuple", data := .seq #[u, u2] }
    let cell : HO := .frz ob (.tup [x, y])
    have hT2 : h''.get? s.heap.objs.size = some ob := (sb.2 _ (Nat.ne_of_gt zl)).trans hT
    have new : ObjOk X.prog X.w (upd H s.heap.objs.size cell) h'' s.heap.objs.size cell :=
      ⟨hT2, by show 2 ≤ sizeLine; decide, [u, u2], .cons ru (.cons ru2 .nil), ⟨_, hT2, rfl, _, rfl⟩⟩
    have I1 : Inv X pins σ (upd H s.heap.objs.size cell) { s with heap := h'' } :=
      I.turnedNew (t' := s.toks) (ch := [z, TI, TO, i1, i2]) (fun c o hb q => (sb.2 c (fun q' => hb (by simp [q']))).trans (hk c o (fun q' => hb (by simp [q'])) (fun q' => hb (by simp [q'])) (fun q' => hb (by simp [q'])) (fun q' => hb (by simp [q'])) q)) hf (Nat.le_refl _) new
    refine ⟨.ref s.heap.objs.size, _, I1, rfl, ⟨_, x, y, ob, rfl, I.hok.fresh (Nat.le_refl _), ⟨rfl, rfl⟩, rfl, fun l hl => by rw [sqK_inj I hl hqx]; exact hx, fun l hl => by rw [sqK_inj I hl hqy]; exact hy⟩, ⟨z'', ?_, ⟨u, u2, ?_⟩, ?_, ?_⟩, fun c hcm => ?_⟩
    · exact (sb.2 _ D.TIz).trans (hk _ _ D.TIz D.TITO D.TIi1 D.TIi2 hTI)
    · exact (sb.2 _ D.TOz).trans TO'
    · exact h1'.at fun o q => (sb.2 _ D.i1z).trans q
    · exact h2'.at fun o q => (sb.2 _ D.i2z).trans q
    · have lt : c < s.heap.objs.size := by
        rcases (show c = z ∨ c = TI ∨ c = TO ∨ c = i1 ∨ c = i2 by simpa using hcm) with q | q | q | q | q
        · rw [q]; exact zl
        · rw [q]; exact Heap.lt_size hTI
        · rw [q]; exact Heap.lt_size hTO
        · rw [q]; exact h1.lt
        · rw [q]; exact h2.lt
      rw [upd_ne (Nat.ne_of_lt lt)]
      exact (hf c hcm).1
  done := by
    intro X hP hw hK hc i pins s σ H E I hf st hg
    subst hP hw hK
    obtain ⟨hz, hTI, ⟨x0, y0, hTO⟩, h1, h2⟩ := st
    obtain ⟨xs, ys, hqx, hqy, hend⟩ := hg
    obtain ⟨its, rv, p⟩ := sqK_raw I hqx
    obtain ⟨its2, rv2, p2⟩ := sqK_raw I hqy
    have l1 := rv.length
    have l2 := rv2.length
    have he : its.toArray[i]? = none ∨ its2.toArray[i]? = none := by
      rcases hend with q | q
      · exact .inl (by simp; omega)
      · exact .inr (by simp; omega)
    exact py_end (I.ok.hd hc) D hz hTI hTO h1 h2 p p2 he fun h' hk => ⟨rfl, I.turnedL (t' := s.toks) (ch := [z, TI, TO, i1, i2]) (fun c o hb q =>
      hk c o (fun q' => hb (by simp [q'])) (fun q' => hb (by simp [q'])) (fun q' => hb (by simp [q'])) (fun q' => hb (by simp [q'])) q) hf⟩
  self := fun A i s Q E st h => wpAny_pyIter_zip st.1 h
def iZip (K : PySem.W.Frag) (ta : TA) : TI := fun σ H R => ta σ H fun vs H1 => ∃ k1 k2 a b xs ys, Two k1 k2 ∧ vs = [.ref a, .ref b] ∧ SqK K k1 H1 a xs ∧ SqK K k2 H1 b ys ∧ R (Itz K k1 k2 a b) H1
theorem pi_zip {X : Cx} {e e2 : Expr} {ta : TA} {p pos tpos : Pos} {elts : List Expr} {kk : Nat} (hg : Gl X "zip") (hm : X.mg "zip" = none) (ha : PA X [e, e2] ta)
    (hs : starEach [e, e2] X.env = (false, eval e X.env) :: starEach [e2] X.env := by rfl) (hpl : (backTo pos (starEach [e2] X.env)).any (·.1) = false := by rfl) :
    PI X (.Tuple elts kk tpos) (.Call (.Name "zip" p) [e, e2] [] pos) (iZip X.K ta) := by
  refine ⟨fun pins s σ H R I h => ?_⟩
  refine Call_ (ld_blt I hg hm PyProof.Rows.boot_zip (PyProof.Rows.callWith_type1 (thn (ha.run pos pins s σ H _ I h) fun us s1 ⟨vs, H1, I1, r1, q1⟩ => ?_) hs hpl))
  obtain ⟨k1, k2, a, b, xs, ys, T2, ex, hqx, hqy, q⟩ := q1
  subst ex
  cases r1 with
  | cons r rr =>
    cases rr with
    | cons r' rr =>
      cases rr
      cases r
      cases r'
      obtain ⟨its, rv, p1⟩ := sqK_raw I1 hqx
      obtain ⟨its2, rv2, p2⟩ := sqK_raw I1 hqy
      have fresh5 : ∀ c, c ∈ [s1.heap.objs.size + 4, s1.heap.objs.size + 2, s1.heap.objs.size + 3, s1.heap.objs.size, s1.heap.objs.size + 1] → FpOk X pins H1 c := fun c hcm => by
        have hle : s1.heap.objs.size ≤ c := by
          rcases (show c = s1.heap.objs.size + 4 ∨ c = s1.heap.objs.size + 2 ∨ c = s1.heap.objs.size + 3 ∨ c = s1.heap.objs.size ∨ c = s1.heap.objs.size + 1 by simpa using hcm) with z | z | z | z | z <;> omega
        exact I1.fpOk hle (I1.hok.fresh hle)
      refine call_two T2 p1 p2 fun h' hz hTI hTO h1 h2 hk => wpAny_pyIter_zip hz ?_
      have I2 : Inv X pins σ H1 { s1 with heap := h' } := I1.kept (t' := s1.toks) hk
      exact ⟨s1.heap.objs.size + 4, [s1.heap.objs.size + 4, s1.heap.objs.size + 2, s1.heap.objs.size + 3, s1.heap.objs.size, s1.heap.objs.size + 1], _, _, H1, rfl, I2, turn (PySem.W.ktu_apart s1.heap.objs.size a b p1.lt p2.lt), ⟨hz, hTI, ⟨_, _, hTO⟩, h1, h2⟩, fresh5, q⟩
end ZIP

/-! zip of data; more of built-ins -/
namespace PD
open PySem PySem.Spec PyProof.Rows L2 GxR LG
section
variable {X : Cx} {c : Co}
def zipD (xs ys : List PyData) : List PyData := List.zipWith (fun a b => .tuple [a, b]) xs ys
def sZip (f : SA) : SI := fun ρ => match f ρ with
  | some ([.d (.tuple xs), .d (.tuple ys)], ρ1) => some (zipD xs ys, ρ1)
  | some ([.d (.tuple xs), .d (.list ys)], ρ1) => some (zipD xs ys, ρ1)
  | _ => none
theorem zipD_at {xs ys : List PyData} {i : Nat} {d : PyData} (h : (zipD xs ys)[i]? = some d) : ∃ x y, xs[i]? = some x ∧ ys[i]? = some y ∧ d = .tuple [x, y] := by
  unfold zipD at h
  rw [List.getElem?_zipWith] at h
  cases e1 : xs[i]? with
  | none => rw [e1] at h; cases h
  | some x =>
    cases e2 : ys[i]? with
    | none => rw [e1, e2] at h; cases h
    | some y =>
      rw [e1, e2] at h
      cases h
      exact ⟨x, y, rfl, rfl, rfl⟩
theorem sqK_same {K : PySem.W.Frag} {F H : Hp} (s : Same F H) : ∀ {k : Bool} {a : Addr} {xs : List V}, ZIP.SqK K k F a xs → ZIP.SqK K k H a xs
  | true, _, _, h => sqT_same s h
  | false, _, _, h => s.seq h
theorem wk_zip {k1 k2 : Bool} {F : Hp} {a b : Addr} {vs us : List V} {xs ys : List PyData} (hK : X.K = c.K) (h1 : ZIP.SqK c.K k1 F a vs) (d1 : DzAll c.K F vs xs) (h2 : ZIP.SqK c.K k2 F b us) (d2 : DzAll c.K F us ys) :
    Wk c (ZIP.Itz X.K k1 k2 a b) F (zipD xs ys) := by
  rw [hK]
  refine ⟨fun i d F2 H2 e s1 s2 => ?_, fun F2 H2 s1 s2 => ⟨vs, us, sqK_same s2 (sqK_same s1 h1), sqK_same s2 (sqK_same s1 h2), ?_⟩⟩
  · obtain ⟨x, y, e1, e2, rfl⟩ := zipD_at e
    obtain ⟨v, ev, dv⟩ := dpAll_at d1 e1
    obtain ⟨u, eu, du⟩ := dpAll_at d2 e2
    refine ⟨⟨vs, us, v, u, sqK_same s2 (sqK_same s1 h1), sqK_same s2 (sqK_same s1 h2), ev, eu⟩, fun p H3 ⟨T, z, z', ob, q1, q2, qd, q3, q4, q5⟩ => ?_⟩
    subst q1
    subst q3
    have t1 := q4 vs (sqK_same s2 (sqK_same s1 h1))
    rw [ev] at t1
    cases t1
    have t2 := q5 us (sqK_same s2 (sqK_same s1 h2))
    rw [eu] at t2
    cases t2
    exact ⟨_, Xt.new s2 q2 qd, dp_newT (s2.free q2) (.cons (dp_same s1 dv) (.cons (dp_same s1 du) .nil))⟩
  · have l1 := dpAll_len d1
    have l2 := dpAll_len d2
    have : (zipD xs ys).length = min xs.length ys.length := by unfold zipD; rw [List.length_zipWith]
    rw [this]
    omega
theorem ei_zip {a b : Expr} {fa : SA} {tg ce : Expr} (hK : X.K = c.K) (h : ∀ {t : TA}, PA X [a, b] t → PI X tg ce (ZIP.iZip X.K t)) (ha : EA c X [a, b] fa) : EI c X tg ce (sZip fa) := by
  refine ⟨⟨fun pins s σ H R I ⟨F, ρ, items, ρ', RR, e1, k⟩ => ?_⟩⟩
  unfold sZip at e1
  split at e1
  · rename_i xs ys ρ1 e2
    cases e1
    refine (h ha.pa).run pins s σ H R I ⟨F, ρ, _, _, RR, e2, fun vs H1 F1 s1 R1 o1 => ?_⟩
    match vs, o1 with
    | [v, u], ⟨o, o', _⟩ =>
      cases o with
      | tup hs hd =>
        cases o' with
        | tup hs' hd' =>
          exact ⟨true, true, _, _, _, _, .tt, rfl, by rw [hK]; exact sqT_same R1.sub hs, by rw [hK]; exact sqT_same R1.sub hs', k _ H1 F1 s1 R1 (wk_zip hK (k1 := true) (k2 := true) hs hd hs' hd')⟩
  · rename_i xs ys ρ1 e2
    cases e1
    refine (h ha.pa).run pins s σ H R I ⟨F, ρ, _, _, RR, e2, fun vs H1 F1 s1 R1 o1 => ?_⟩
    match vs, o1 with
    | [v, u], ⟨o, o', _⟩ =>
      cases o with
      | tup hs hd =>
        cases o' with
        | lst hs' hd' =>
          exact ⟨true, false, _, _, _, _, .tl, rfl, by rw [hK]; exact sqT_same R1.sub hs, by rw [hK]; exact R1.sub.seq hs', k _ H1 F1 s1 R1 (wk_zip hK (k1 := true) (k2 := false) hs hd hs' hd')⟩
  · cases e1
end
end PD

/-! t.index(x), t[::-1], all(list), sorted(set(t)), two new lists at once -/
namespace PD
open PySem PySem.Spec PyProof.Rows L2 GxR LG
/-! ### index -/
section
variable {X : Cx}
def rIdxT (K : PySem.W.Frag) : V → List V → Hp → VK → Prop := fun x xs H Q => ∃ (p : Addr) (ns : List Int) (k : Int), x = .ref p ∧ xs = [.int k] ∧ SqT K H p (ns.map V.int) ∧ k ∈ ns ∧ Q (.int (ns.idxOf k : Nat)) H
theorem mt_tindex : MtR X "tuple.index" (rIdxT X.K) := by
  intro pins s σ H x args v us Q I rx rxs h
  obtain ⟨tp, ns, k, rfl, rfl, hs, hk, wish⟩ := h
  cases rx
  obtain ⟨u, rfl, ru⟩ := rxs.one
  obtain ⟨t, rfl⟩ := ru
  obtain ⟨vals, rv, p, _⟩ := I.tuple hs
  exact SeqAt.tuple_index_ints (show s.heap.IsTuple tp vals.toArray from p) (intsAre_of rv) hk ⟨.int (ns.idxOf k : Nat), H, I.tok _, ⟨s.toks, rfl⟩, wish⟩
end
def fIdxT : PyData → PyData → Option PyData
  | .tuple ds, .int k => match intsOf ds with
    | some ns => if k ∈ ns then some (.int (ns.idxOf k : Nat)) else none
    | none => none
  | _, _ => none
theorem l1_idxT {K : PySem.W.Frag} : L1M K (rIdxT K) fIdxT := by
  intro F H x y d e z Q s hx hy hf k
  unfold fIdxT at hf
  split at hf
  · rename_i ds j
    split at hf
    · rename_i ns e1
      split at hf
      · rename_i hj
        cases hf
        obtain ⟨a, vs, rfl, ha, hd⟩ := hx.tup s
        rw [intsOf_eq e1] at hd
        have hv := dpAll_ints hd
        subst hv
        exact ⟨a, ns, j, rfl, by rw [hy.int], ha, hj, k _ F H (Xt.refl s) (.int _)⟩
      · cases hf
    · cases hf
  · cases hf
/-! ### t[::-1] -/
theorem filterMap_all {α β : Type} {f : α → Option β} {g : α → β} : ∀ {l : List α}, (∀ x ∈ l, f x = some (g x)) → l.filterMap f = l.map g
  | [], _ => rfl
  | x :: l, h => by
    rw [List.filterMap_cons, h x (List.mem_cons_self ..), List.map_cons]
    dsimp only
    rw [filterMap_all fun y hy => h y (List.mem_cons_of_mem _ hy)]
theorem pick_back {α : Type} (xs : List α) : ((List.range xs.length).filterMap fun (k : Nat) => xs[(((xs.length : Int) - 1) + (k : Int) * (-1)).toNat]?) = xs.reverse := by
  cases xs with
  | nil => rfl
  | cons x r =>
    have e : ∀ k ∈ List.range (x :: r).length, (x :: r)[((((x :: r).length : Int) - 1) + (k : Int) * (-1)).toNat]? = some ((x :: r).reverse.getD k x) := fun k hk => by
      have hk := List.mem_range.mp hk
      have : ((((x :: r).length : Int) - 1) + (k : Int) * (-1)).toNat = (x :: r).length - 1 - k := by omega
      rw [this, List.getD_eq_getElem?_getD, List.getElem?_reverse hk]
      rw [List.getElem?_eq_getElem (by omega)]
      rfl
    rw [filterMap_all e]
    refine List.ext_getElem (by simp) fun i h1 h2 => ?_
    rw [List.getElem_map, List.getElem_range, List.getD_eq_getElem?_getD, List.getElem?_eq_getElem h2]
    rfl
section
variable {prog : Program} {w : World} {A : Around} {E : Value → Shared → Prop} {s : Shared}
theorem applied_back {sl : Addr} {n : Nat} {u : Tok} {Q : Int × Int × Nat → Shared → Prop} (hs : s.heap.IsSliceOf sl .none .none (.int (-1) u))
    (h : Q ((n : Int) - 1, -1, n) s) : wpAny (model prog w) A (Builtin.Slice.sliceApplied (.ref sl) (pure (n : Int))) Q E s := by
  obtain ⟨os, hos, hcs, hds⟩ := id hs
  unfold Builtin.Slice.sliceApplied Builtin.Slice.sliceFields
  refine wpAny_bind (wpAny_bind (wpAny_field hos hds (x := .none) rfl (wpAny_bind (wpAny_field hos hds (x := .none) rfl (wpAny_bind (wpAny_field hos hds (x := .int (-1) u) rfl (wpAny_pure ?_)))))))
  refine wpAny_bind (slicePart_int ?_)
  show wpAny _ _ (if ((-1 : Int) == 0) = true then _ else _) _ _ s
  rw [if_neg (by decide)]
  refine wpAny_bind (slicePart_none (wpAny_bind (slicePart_none (wpAny_bind (wpAny_pure ?_)))))
  have e : Builtin.Slice.slicePlaces ((n : Int) - 1) (-1) (-1) = n := by
    unfold Builtin.Slice.slicePlaces
    have h1 : ¬ ((-1 : Int) > 0) := by omega
    simp only [h1, if_false]
    have h2 : (- -1 : Int) = 1 := by omega
    rw [h2, Int.ediv_one]
    split <;> omega
  show wpAny _ _ (pure ((n : Int) - 1, (-1 : Int), Builtin.Slice.slicePlaces ((n : Int) - 1) (-1) (-1))) _ _ s
  rw [e]
  exact wpAny_pure h
theorem getItem_back {t sl : Addr} {items : Array Value} {u : Tok} {Q : Value → Shared → Prop} (ht : IsTup s.heap t items) (hs : s.heap.IsSliceOf sl .none .none (.int (-1) u))
    (h : Q (.ref s.heap.objs.size) { s with heap := s.heap.push { cls := .type "tuple", data := .seq items.toList.reverse.toArray } })
    (hsz : items.size ≤ sizeLine) : wpAny (model prog w) A (getItem (.ref t) (.ref sl)) Q E s := by
  have fits : sizeOk (.seq items.toList.reverse.toArray) := by
    show items.toList.reverse.toArray.size ≤ sizeLine
    rw [List.size_toArray, List.length_reverse, Array.length_toList]
    exact hsz
  obtain ⟨os, hos, hcs, hds⟩ := id hs
  have hTs : s.TypeIs (.ref sl) "slice" := ⟨os, hos, hcs⟩
  unfold getItem
  try with_reducible refine wpAny_holding ?_
  first | refine wpAny_bind (wpAny_pure ?_) | skip
  refine wpAny_bind (wpAny_sequenceKey ht.typeIs (by decide) ?_)
  refine wpAny_bind (wpAny_callSpecial?_slot (name := Str.ofString "__getitem__") ht.typeIs PyProof.Rows.slot_tuple_getitem
    (wpAny_call_entry PyProof.Rows.slot_tuple_getitem ht.typeIs PyProof.Rows.entry_tuple_getitem ?_ (PyProof.Rows.args_tuple_getitem _ _)))
  show wpAny _ _ (Builtin.Tuple.tupleItemsOf (.ref t) >>= _) _ _ s
  refine wpAny_bind (tupleItemsOf_ ht ?_)
  refine wpAny_bind (wpAny_typeOf hTs ?_)
  rw [if_pos (by decide)]
  refine wpAny_bind (applied_back hs ?_)
  show wpAny _ _ (if (((items.size : Int) - 1) == 0 && (-1 : Int) == 1 && items.size == items.size) = true then _ else _) _ _ s
  have hno : ¬ ((((items.size : Int) - 1) == 0 && (-1 : Int) == 1 && items.size == items.size) = true) := by
    intro q
    rw [Bool.and_eq_true, Bool.and_eq_true] at q
    exact absurd (eq_of_beq q.1.2) (by decide)
  have e : ((List.range items.size).filterMap fun (k : Nat) => items[(((items.size : Int) - 1) + (k : Int) * (-1)).toNat]?).toArray = items.toList.reverse.toArray := by
    have := pick_back items.toList
    rw [← this]
    simp
  rw [if_neg hno, e]
  first
    | exact wpAny_bind (m := Builtin.Tuple.tupleExact _) (wpAny_newObj_type (wpAny_pure ⟨_, rfl, wpAny_pure h⟩) fits)
    | exact wpAny_bind (m := Builtin.Tuple.tupleExact _) (wpAny_newObj_type (wpAny_bind (wpAny_pure (wpAny_pure ⟨_, rfl, wpAny_pure h⟩))) fits)
    | exact wpAny_bind (wpAny_bind (m := Builtin.Tuple.tupleExact _) (wpAny_newObj_type (wpAny_pure (wpAny_pure ⟨_, rfl, wpAny_pure h⟩)) fits))
    | exact wpAny_bind (wpAny_bind (m := Builtin.Tuple.tupleExact _) (wpAny_newObj_type (wpAny_pure ⟨_, rfl, wpAny_pure h⟩) fits))
end
section
variable {c : Co} {X : Cx} {e st : Expr} {te ts : TE} {pos p2 : Pos}
def tRev (K : PySem.W.Frag) (te ts : TE) : TE := fun σ H Q => te σ H fun x H1 => ts σ H1 fun y H2 => ∃ a vs, y = .int (-1) ∧ x = .ref a ∧ SqT K H2 a vs ∧ NewT Q H2 vs.reverse
theorem vals_rev : ∀ {vs : List V} {us : List Value}, Vals vs us → Vals vs.reverse us.reverse
  | _, _, .nil => .nil
  | _, _, .cons h r => by
    rw [List.reverse_cons, List.reverse_cons]
    exact (vals_rev r).append (.cons h .nil)
theorem pe_rev (he : PE X e te) (hs : PE X st ts) (how : ∀ a b : Addr, subscripted (.Slice none none (some st) p2) false (.ref a) (.ref b) = operate [.ref a, .ref b] (getItem (.ref a) (.ref b)) := by intro a b; with_unfolding_all rfl) : PE X (.Subscript e (.Slice none none (some st) p2) pos) (tRev X.K te ts) := by
  refine ⟨fun pins s σ H Q I h => ?_⟩
  refine Subscript_ (thn (he.run pins s σ H _ I h) fun v s1 ⟨x, H1, I1, r1, q1⟩ => ?_)
  refine wpAny_Slice ?_
  rw [evalPart_none]
  refine wpAny_pure (wpAny_pure ?_)
  rw [evalPart_some]
  refine thn (hs.run pins s1 σ H1 _ I1 q1) fun u s2 ⟨y, H2, I2, r2, q2⟩ => ?_
  obtain ⟨a, vs, rfl, rfl, hq, q⟩ := q2
  obtain ⟨t, rfl⟩ := r2
  cases r1
  have I4 : Inv X pins σ H2 { s2 with heap := s2.heap.push { cls := .type "slice", data := .fields #[.none, .none, .int (-1) t] } } := I2.kept (t' := s2.toks) fun b ob q => Heap.get?_push_of_some _ q
  obtain ⟨us, r, ht, z⟩ := I4.tuple hq
  show wpAny (model X.prog X.w) X.A (subscriptTail e (.Slice none none (some st) p2) (.ref a) (.ref s2.heap.objs.size)) (EP X pins σ Q) X.xe { s2 with heap := s2.heap.push { cls := .type "slice", data := .fields #[.none, .none, .int (-1) t] } }
  refine tail_any (ops := [.ref a, .ref s2.heap.objs.size]) ht.typeIs PyProof.Rows.slot_tuple_getitem.lookup ?_ (how _ _)
  refine getItem_back ht (Heap.IsSliceOf.new ..) ?_ (by rw [List.size_toArray, ← r.length]; exact z)
  exact new_t (s0 := { s2 with heap := s2.heap.push { cls := .type "slice", data := .fields #[.none, .none, .int (-1) t] } }) (t' := s2.toks) I4 (fun b o e => Heap.get?_push_of_some _ e) (Nat.le_refl _) (Heap.get?_push_size _ rfl) (vals_rev r) (by rw [List.length_reverse]; exact z) q
def sRev (fa fs : SE) : SE := fun ρ => match fa ρ with
  | none => none
  | some (y, ρ1) => match fs ρ1 with
    | some (.d (.int k), ρ2) => if k = -1 then match res ρ2 y with
      | some (.tuple ds) => some (.d (.tuple ds.reverse), ρ2)
      | _ => none else none
    | _ => none
theorem dpAll_rev {K : PySem.W.Frag} {F : Hp} : ∀ {vs : List V} {ds : List PyData}, DzAll K F vs ds → DzAll K F vs.reverse ds.reverse
  | _, _, .nil => .nil
  | _, _, .cons h r => by
    rw [List.reverse_cons, List.reverse_cons]
    exact dpAll_app (dpAll_rev r) (.cons h .nil)
theorem eo_rev {ce : Expr} {fa fs : SE} (hK : X.K = c.K) (h : ∀ {te ts : TE}, PE X e te → PE X st ts → PE X ce (tRev X.K te ts)) (ha : EO c X e fa) (hs : EO c X st fs) : EO c X ce (sRev fa fs) := by
  refine ⟨pe_imp (h ha.pe hs.pe) fun σ H Q ⟨F, ρ, x, ρ', R, q, k⟩ => ?_⟩
  unfold sRev at q
  split at q
  · cases q
  · rename_i y ρ1 e1
    split at q
    · rename_i j ρ2' e2
      split at q
      · rename_i hj
        subst hj
        split at q
        · rename_i ds e3
          cases q
          refine ⟨F, ρ, y, ρ1, R, e1, fun v H1 F1 s1 R1 o1 => ⟨F1, ρ1, _, _, R1, e2, fun u H2 F2 s2 R2 o2 => ?_⟩⟩
          obtain ⟨a, vs, rfl, hq, hd⟩ := (R2.vw (o1.same s2) e3).tup R2.sub
          rw [hK]
          refine ⟨a, vs, ?_, rfl, hq, fun p ob hp hob => ?_⟩
          · cases o2
            rfl
          · exact k _ _ _ ((s1.trans s2).trans (Xt.new (o := .frz ob (.tup vs.reverse)) R2.sub hp hob).f) (R2.xt (Xt.new (o := .frz ob (.tup vs.reverse)) R2.sub hp hob)) (dp_newT (R2.sub.free hp) (dpAll_rev hd))
        · cases q
      · cases q
    · cases q
end
/-! ### all(list of truths) -/
def boolsOf : List PyData → Option (List Bool)
  | [] => some []
  | .bool b :: r => (boolsOf r).map (b :: ·)
  | _ :: _ => none
theorem boolsOf_map : ∀ bs : List Bool, boolsOf (bs.map PyData.bool) = some bs
  | [] => rfl
  | b :: bs => by
    rw [List.map_cons]
    show (boolsOf (bs.map PyData.bool)).map (b :: ·) = _
    rw [boolsOf_map bs]
    rfl
theorem boolsOf_eq : ∀ {ds : List PyData} {bs : List Bool}, boolsOf ds = some bs → ds = bs.map PyData.bool
  | [], _, e => by cases e; rfl
  | .bool b :: r, bs, e => by
    simp only [boolsOf, Option.map_eq_some_iff] at e
    obtain ⟨z, e1, rfl⟩ := e
    rw [boolsOf_eq e1]
    rfl
  | .int _ :: _, _, e => by cases e
  | .none :: _, _, e => by cases e
  | .str _ :: _, _, e => by cases e
  | .list _ :: _, _, e => by cases e
  | .tuple _ :: _, _, e => by cases e
  | .dict _ :: _, _, e => by cases e
theorem dpAll_bools {K : PySem.W.Frag} {F : Hp} : ∀ {vs : List V} {bs : List Bool}, DzAll K F vs (bs.map PyData.bool) → vs = bs.map V.bl
  | _, [], h => by cases h; rfl
  | _, b :: bs, .cons h hs => by
    rw [dpAll_bools hs]
    cases h
    rfl
def fAllL : List PyData → Option PyData
  | [.list ds] => (boolsOf ds).map fun bs => .bool (bs.all id)
  | _ => none
theorem ln_allL {K : PySem.W.Frag} : LNok K (rAll K) fAllL := by
  intro F H vs ds z Q s hv hf k
  unfold fAllL at hf
  split at hf
  · rename_i ds
    obtain ⟨bs, e, rfl⟩ := Option.map_eq_some_iff.mp hf
    obtain ⟨v, rfl, h⟩ := vw1 hv
    obtain ⟨a, us, rfl, ha, hd⟩ := h.list s
    rw [boolsOf_eq e] at hd
    rw [dpAll_bools hd] at ha
    exact ⟨a, bs, rfl, ha, k _ F H (Xt.refl s) (.bl _)⟩
  · cases hf
/-! ### sorted(set(t)), t a tuple of ints -/
def insS (k : Int) : List Int → List Int
  | [] => [k]
  | x :: xs => if k < x then k :: x :: xs else if k = x then x :: xs else x :: insS k xs
def snub : List Int → List Int
  | [] => []
  | x :: xs => insS x (snub xs)
theorem mem_insS {k j : Int} : ∀ {xs : List Int}, j ∈ insS k xs ↔ j = k ∨ j ∈ xs
  | [] => by simp [insS]
  | x :: xs => by
    unfold insS
    split
    · simp
    · split
      · rename_i e
        subst e
        simp
      · rw [List.mem_cons, mem_insS (xs := xs), List.mem_cons]
        constructor
        · rintro (h | h | h) <;> simp [h]
        · rintro (h | h | h) <;> simp [h]
theorem insS_up {k : Int} : ∀ {xs : List Int}, xs.Pairwise (· < ·) → (insS k xs).Pairwise (· < ·)
  | [], _ => by simp [insS]
  | x :: xs, h => by
    have h1 := fun {z} => List.rel_of_pairwise_cons h (a' := z)
    have h2 := List.Pairwise.of_cons h
    unfold insS
    split
    · rename_i lt
      refine List.Pairwise.cons (fun y hy => ?_) h
      rcases List.mem_cons.mp hy with e | hy
      · rw [e]; exact lt
      · exact Int.lt_trans lt (h1 hy)
    · split
      · exact h
      · refine List.Pairwise.cons (fun y hy => ?_) (insS_up h2)
        rcases mem_insS.mp hy with e | hy
        · rw [e]; omega
        · exact h1 hy
theorem mem_snub {j : Int} : ∀ {xs : List Int}, j ∈ snub xs ↔ j ∈ xs
  | [] => Iff.rfl
  | x :: xs => by
    unfold snub
    rw [mem_insS, mem_snub (xs := xs), List.mem_cons]
theorem snub_up : ∀ {xs : List Int}, (snub xs).Pairwise (· < ·)
  | [] => List.Pairwise.nil
  | x :: xs => insS_up snub_up
theorem up_one : ∀ {xs ys : List Int}, xs.Pairwise (· < ·) → ys.Pairwise (· < ·) → (∀ k, k ∈ xs ↔ k ∈ ys) → xs = ys
  | [], [], _, _, _ => rfl
  | [], y :: ys, _, _, h => absurd ((h y).mpr (List.mem_cons_self ..)) (by simp)
  | x :: xs, [], _, _, h => absurd ((h x).mp (List.mem_cons_self ..)) (by simp)
  | x :: xs, y :: ys, hx, hy, h => by
    have h1 := fun {z} => List.rel_of_pairwise_cons hx (a' := z)
    have h2 := fun {z} => List.rel_of_pairwise_cons hy (a' := z)
    have e : x = y := by
      rcases List.mem_cons.mp ((h x).mp (List.mem_cons_self ..)) with e | m
      · exact e
      · rcases List.mem_cons.mp ((h y).mpr (List.mem_cons_self ..)) with e | m'
        · exact e.symm
        · have a := h2 m
          have b := h1 m'
          omega
    subst e
    rw [up_one (List.Pairwise.of_cons hx) (List.Pairwise.of_cons hy) fun k => ?_]
    constructor
    · intro m
      rcases List.mem_cons.mp ((h k).mp (List.mem_cons_of_mem _ m)) with e | m'
      · have := h1 m
        omega
      · exact m'
    · intro m
      rcases List.mem_cons.mp ((h k).mpr (List.mem_cons_of_mem _ m)) with e | m'
      · have := h2 m
        omega
      · exact m'
section
variable {c : Co} {X : Cx} {a ce : Expr}
def tSrtSet (K : PySem.W.Frag) (ta : TE) : TE := fun σ H Q => ta σ H fun x H1 => ∃ (l : Addr) (ns : List Int), x = .ref l ∧ SqT K H1 l (ns.map V.int) ∧ ns.length < 60 ∧ ∀ p, H1 p = none → Q (.ref p) (upd H1 p (.lst ((snub ns).map V.int)))
theorem pe_srtSet {ta : TE} {p p2 q pos : Pos} (hg : Gl X "sorted") (hm : X.mg "sorted" = none) (hg2 : Gl X "set") (hm2 : X.mg "set" = none) (ha : PE X a ta) (hc : X.calm = true := by rfl)
    (na : starEach [a] X.env = (false, eval a X.env) :: starEach [] X.env := by rfl) : PE X (.Call (.Name "sorted" p) [.Call (.Name "set" p2) [a] [] q] [] pos) (tSrtSet X.K ta) := by
  refine ⟨fun pins s σ H Q I h => ?_⟩
  refine Call_ (ld_blt I hg hm boot_sorted ?_)
  refine PyProof.Rows.callWith_builtin1 (PyProof.Rows.args_cons ?_ rfl) rfl rfl
  refine Call_ (ld_blt I hg2 hm2 boot_set ?_)
  refine PyProof.Rows.callWith_type1 (PyProof.Rows.args_cons (thn (ha.run pins s σ H _ I h) fun v s1 ⟨x, H1, I1, r1, q1⟩ => PyProof.Rows.args_nil ?_) na) na rfl
  obtain ⟨l, ns, rfl, hq, hl, q1⟩ := q1
  cases r1
  obtain ⟨its, r, pl, hz⟩ := I1.tuple hq
  refine L2.call_set_tupI ns (I1.ok.hd hc) (show s1.heap.IsTuple l its.toArray from pl) (by simpa using RZ.intsAre_vals r) (by unfold scanBound; omega) fun h' tk n hS hcn hk => ?_
  refine PyProof.Rows.args_nil ?_
  have I2 : Inv X pins σ H1 { s1 with heap := h', toks := tk } := I1.kept fun b o e => hk b o e
  replace hS : SetR X.w ({ s1 with heap := h', toks := tk } : Shared).heap s1.heap.objs.size (fun j => decide (j ∈ ns)) n := hS
  revert hS I2
  generalize ({ s1 with heap := h', toks := tk } : Shared) = s2
  intro I2 hS
  refine sorted_set hS (I2.ok.hd hc) (by omega) fun s' w out cc ms k g o hp hgt hi hs hmem hlen => ?_
  have em : ms = snub ns := up_one hs snub_up fun k => by rw [hmem k, decide_eq_true_eq, mem_snub]
  subst em
  have fits : ((snub ns).map V.int).length ≤ sizeLine := by rw [List.length_map, hlen, sizeLine_eq]; omega
  have hn : H1 w = none := I2.hok.fresh hp
  have J : Inv X pins σ (upd H1 w (.lst ((snub ns).map V.int))) { s2 with heap := s'.heap, gens := s'.gens, drawn := s'.drawn, toks := s'.toks } :=
    I2.call (ch := []) (Un.laid k hp hn) (I2.hok.laid k hp ⟨fits, out.toList, cc, vals_of_ints hi, hgt⟩) (by rw [g]; exact I2.bare) (fun _ z => nomatch z)
  have e : s' = { s2 with heap := s'.heap, gens := s'.gens, drawn := s'.drawn, toks := s'.toks } := by
    cases s'
    cases s2
    cases o
    rfl
  rw [e]
  exact ⟨.ref w, _, J, rfl, q1 w hn⟩
def sSrtSet (f : SE) : SI := fun ρ => match f ρ with
  | some (x, ρ1) => match res ρ1 x with
    | some (.tuple ds) => match intsOf ds with
      | some ns => if ns.length < 60 then some ((snub ns).map PyData.int, ρ1) else none
      | none => none
    | _ => none
  | none => none
theorem dpAll_of_ints {K : PySem.W.Frag} {F : Hp} : ∀ ns : List Int, DzAll K F (ns.map V.int) (ns.map PyData.int)
  | [] => .nil
  | n :: ns => .cons (.int n) (dpAll_of_ints ns)
theorem ef_srtSet {f : SE} (hK : X.K = c.K) (h : ∀ {te : TE}, PE X a te → PE X ce (tSrtSet X.K te)) (ha : EO c X a f) : EF c X ce (sSrtSet f) := by
  refine ⟨pe_imp (h ha.pe) fun σ H Q ⟨F, ρ, x, ρ', R, e, k⟩ => ?_⟩
  unfold sSrtSet at e
  split at e
  · rename_i y ρ1 e1
    split at e
    · rename_i ds e2
      split at e
      · rename_i ns e3
        split at e
        · rename_i hl
          cases e
          refine ⟨F, ρ, y, _, R, e1, fun v H1 F1 s1 R1 o1 => ?_⟩
          obtain ⟨p, vs, rfl, hs, hd⟩ := (R1.vw o1 e2).tup R1.sub
          rw [intsOf_eq e3] at hd
          rw [dpAll_ints hd] at hs
          rw [hK]
          exact ⟨p, ns, rfl, hs, hl, fun p hp => let ⟨R2, f2⟩ := R1.fresh hp (dpAll_of_ints (snub ns)); k p _ F1 s1 R2 f2⟩
        · cases e
      · cases e
    · cases e
  · cases e
end
/-! ### x, y = [..], [..], both changed later -/
section
variable {c : Co} {X : Cx}
def AnyF (c : Co) (g : SI) : TE := fun σ H Q => ∃ c' : Co, c'.K = c.K ∧ (c'.T = c.T ∧ c'.fv = c.fv) ∧ rF c' g σ H Q
theorem any_f {b : Expr} {g : SI} (h : ∀ H0 F0 io, EF (c.re H0 F0 io) X b g) : PE X b (AnyF c g) := ⟨fun pins s' σ H' Q I ⟨c', hK, hT, q⟩ => by
  rw [re_eq hK hT] at q
  exact (h _ _ _).pe.run pins s' σ H' Q I q⟩
def sParOO (i j : Nat) (f g : SI) : SS := fun ρ => match f ρ with
  | none => none
  | some (ds, ρ1) => match g ρ1 with
    | some (es, ρ2) => if i = j then none else some (.nx, (ρ2.set i (.own ds)).set j (.own es))
    | none => none
theorem es_parOO {i j : Nat} {a b : Expr} {f g : SI} {st : Stmt} (h : ∀ {t u : TE}, PE X a t → PE X b u → PS X st (tPar i j (tCons t (tCons u tNil)))) (ha : EF c X a f) (hb : ∀ H0 F0 io, EF (c.re H0 F0 io) X b g) : ES c X st (sParOO i j f g) := by
  refine ⟨ps_imp (h ha.pe (any_f hb)) fun D σ H ⟨F, ρ, fl, ρ', R, e, k⟩ => ?_⟩
  unfold sParOO at e
  split at e
  · cases e
  · rename_i ds ρ1 e1
    split at e
    · rename_i es ρ2 e2
      split at e
      · cases e
      · rename_i hij
        cases e
        refine ⟨F, ρ, ds, ρ1, R, e1, fun a H1 F1 s1 R1 f1 => ?_⟩
        obtain ⟨vs, hv, hd⟩ := f1.at_
        have f0 : c.F0 a = none := R1.mono.free f1.nf
        have nio : a ∉ c.io := fun z => (R1.ioh a z).1 f1.h0
        have R2 := R1.guard f1 hv f0
        refine ⟨c.with a (.lst vs), rfl, ⟨rfl, rfl⟩, F1, ρ1, _, ρ2, R2, e2, fun b H3 F3 s3 R3 f3 => ?_⟩
        obtain ⟨R4, h4, n4, no4⟩ := R3.unguard f1.h0 f1.nt nio f0
        have f4 : Fresh c F3 H3 σ ρ2 a ds := ⟨⟨vs, h4, dpAll_same s3 hd⟩, n4, f1.nt, f1.h0, no4⟩
        have hb0 : upd c.H0 a (.lst vs) b = none := f3.h0
        have ba : b ≠ a := fun z => by
          rw [z, upd_same] at hb0
          cases hb0
        have R5 := R4.putOwn i f4
        have f5 : Fresh c F3 H3 (σ.set i (some (.ref a))) (ρ2.set i (.own ds)) b es := by
          refine ⟨f3.at_, f3.nf, f3.nt, by rw [upd_ne ba] at hb0; exact hb0, fun m xs e z => ?_⟩
          by_cases hm : i = m
          · subst hm
            by_cases hi : i < ρ2.length
            · rw [vAt_set (by rw [R4.len]; exact hi)] at z
              cases z
              exact ba rfl
            · rw [List.getElem?_eq_none (by simpa using hi)] at e
              cases e
          · rw [vAt_ne hm] at z
            rw [List.getElem?_set_ne hm] at e
            exact f3.no m xs e z
        exact ⟨_, _, rfl, k _ H3 F3 (s1.trans s3) (R5.putOwn j f5)⟩
    · cases e
end
end PD

/-! sorted(set(pairs)), pairs of ints in 0 .. 63 -/
namespace PD
open PySem PySem.Spec PyProof.Rows L2 GxR LG
def prD (p : Int × Int) : PyData := .tuple [.int p.1, .int p.2]
def pairsOf : List PyData → Option (List (Int × Int))
  | [] => some []
  | .tuple [.int a, .int b] :: r => if decide (0 ≤ a ∧ a < 64 ∧ 0 ≤ b ∧ b < 64) then (pairsOf r).map ((a, b) :: ·) else none
  | _ :: _ => none
def cdP (p : Int × Int) : Int := p.1 * 64 + p.2
def dcP (m : Int) : Int × Int := (m / 64, m % 64)
def InP (p : Int × Int) : Prop := 0 ≤ p.1 ∧ p.1 < 64 ∧ 0 ≤ p.2 ∧ p.2 < 64
theorem pairsOf_map : ∀ {ps : List (Int × Int)}, (∀ p ∈ ps, InP p) → pairsOf (ps.map prD) = some ps
  | [], _ => rfl
  | p :: ps, h => by
    rw [List.map_cons]
    show (if decide (0 ≤ p.1 ∧ p.1 < 64 ∧ 0 ≤ p.2 ∧ p.2 < 64) then (pairsOf (ps.map prD)).map ((p.1, p.2) :: ·) else none) = _
    rw [if_pos (decide_eq_true (show 0 ≤ p.1 ∧ p.1 < 64 ∧ 0 ≤ p.2 ∧ p.2 < 64 from h p (List.mem_cons_self ..))), pairsOf_map fun q hq => h q (List.mem_cons_of_mem _ hq)]
    rfl
theorem pairsOf_eq {ds : List PyData} : ∀ {ps : List (Int × Int)}, pairsOf ds = some ps → ds = ps.map prD ∧ ∀ p ∈ ps, InP p := by
  fun_induction pairsOf ds with
  | case1 => intro ps e; cases e; exact ⟨rfl, fun p h => by cases h⟩
  | case2 a b r h ih =>
    intro ps e
    obtain ⟨z, e1, rfl⟩ := Option.map_eq_some_iff.mp e
    obtain ⟨h1, h2⟩ := ih e1
    refine ⟨by rw [List.map_cons, ← h1]; rfl, fun p hp => ?_⟩
    rcases List.mem_cons.mp hp with e | hp
    · rw [e]; exact (show InP (a, b) from (of_decide_eq_true h : 0 ≤ a ∧ a < 64 ∧ 0 ≤ b ∧ b < 64))
    · exact h2 p hp
  | case3 => intro ps e; cases e
  | case4 => intro ps e; cases e
theorem dc_cd {p : Int × Int} (h : InP p) : dcP (cdP p) = p := by
  obtain ⟨a, b⟩ := p
  obtain ⟨h1, h2, h3, h4⟩ := h
  unfold dcP cdP
  dsimp only at *
  refine Prod.ext ?_ ?_
  · show (a * 64 + b) / 64 = a
    omega
  · show (a * 64 + b) % 64 = b
    omega
theorem pairs_refs {K : PySem.W.Frag} {F : Hp} : ∀ {ps : List (Int × Int)} {vs : List V}, DzAll K F vs (ps.map prD) →
    ∃ ks : List (Addr × List Int), vs = ks.map (fun q => V.ref q.1) ∧ ks.map (·.2) = ps.map (fun p => [p.1, p.2]) ∧ ∀ q ∈ ks, SqT K F q.1 (q.2.map V.int) ∧ Dz K F (V.ref q.1) (.tuple (q.2.map PyData.int))
  | [], vs, h => by cases h; exact ⟨[], rfl, rfl, fun q h => by cases h⟩
  | p :: ps, _, .cons (v := v) (vs := vs) h hs => by
    obtain ⟨ks, e1, e2, e3⟩ := pairs_refs hs
    have h0 := h
    cases h with
    | tup hq hd =>
      rename_i a xs
      have hv := dpAll_ints (ns := [p.1, p.2]) hd
      subst hv
      refine ⟨(a, [p.1, p.2]) :: ks, by rw [e1]; rfl, by rw [List.map_cons, e2]; rfl, fun q hm => ?_⟩
      rcases List.mem_cons.mp hm with e | hm
      · rw [e]; exact ⟨hq, h0⟩
      · exact e3 q hm
/-- sorted, without repetition -/
def srtP (ps : List (Int × Int)) : List (Int × Int) := (snub (ps.map cdP)).map dcP
theorem srtP_mem {ps : List (Int × Int)} (h : ∀ p ∈ ps, InP p) {q : Int × Int} : q ∈ srtP ps ↔ q ∈ ps := by
  unfold srtP
  rw [List.mem_map]
  constructor
  · rintro ⟨m, hm, rfl⟩
    obtain ⟨p, hp, rfl⟩ := List.mem_map.mp (mem_snub.mp hm)
    rw [dc_cd (h p hp)]
    exact hp
  · intro hq
    exact ⟨cdP q, mem_snub.mpr (List.mem_map_of_mem hq), dc_cd (h q hq)⟩
theorem code_cd {q : List Int} {p : Int × Int} (e : q = [p.1, p.2]) : TS.code 64 q = cdP p := by
  rw [e, code_pair]
  rfl
section
variable {c : Co} {X : Cx} {a ce : Expr}
def sSrtSetP (f : SE) : SI := fun ρ => match f ρ with
  | some (x, ρ1) => match res ρ1 x with
    | some (.list ds) => match pairsOf ds with
      | some ps => if ps.length < 60 then some ((srtP ps).map prD, ρ1) else none
      | none => none
    | _ => none
  | none => none
theorem dpAll_refs {K : PySem.W.Frag} {F : Hp} : ∀ {L : List (Addr × List Int)}, (∀ q ∈ L, Dz K F (V.ref q.1) (.tuple (q.2.map PyData.int))) → DzAll K F (L.map fun q => V.ref q.1) (L.map fun q => PyData.tuple (q.2.map PyData.int))
  | [], _ => .nil
  | q :: L, h => .cons (h q (List.mem_cons_self ..)) (dpAll_refs fun r hr => h r (List.mem_cons_of_mem _ hr))
theorem ef_srtSetP {f : SE} (hK : X.K = c.K) (h : ∀ {te : TE}, PE X a te → PE X ce (tCB (rSortedT X.K X.prog X.w) (tCons (tCB (rSetOfT X.K X.prog X.w) (tCons te tNil)) tNil))) (ha : EO c X a f) : EF c X ce (sSrtSetP f) := by
  refine ⟨pe_imp (h ha.pe) fun σ H Q ⟨F, ρ, x, ρ', R, e, k⟩ => ?_⟩
  unfold sSrtSetP at e
  split at e
  · rename_i y ρ1 e1
    split at e
    · rename_i ds e2
      split at e
      · rename_i ps e3
        split at e
        · rename_i hl
          cases e
          refine ⟨F, ρ, y, _, R, e1, fun v H1 F1 s1 R1 o1 => ?_⟩
          obtain ⟨p, vs, rfl, hs, hd⟩ := (R1.vw o1 e2).list R1.sub
          obtain ⟨ed, hin⟩ := pairsOf_eq e3
          rw [ed] at hd
          obtain ⟨ks, rfl, ek, hk⟩ := pairs_refs hd
          have len : ks.length = ps.length := by
            have := congrArg List.length ek
            rw [List.length_map, List.length_map] at this
            exact this
          have of : ∀ q ∈ ks, ∃ r ∈ ps, q.2 = [r.1, r.2] := fun q hq => by
            have : q.2 ∈ ps.map (fun p => [p.1, p.2]) := ek ▸ List.mem_map_of_mem (f := fun q : Addr × List Int => q.2) hq
            obtain ⟨r, hr, e⟩ := List.mem_map.mp this
            exact ⟨r, hr, e.symm⟩
          have back : ∀ r ∈ ps, ∃ q ∈ ks, q.2 = [r.1, r.2] := fun r hr => by
            have : [r.1, r.2] ∈ ks.map (·.2) := ek ▸ List.mem_map_of_mem (f := fun p : Int × Int => [p.1, p.2]) hr
            obtain ⟨q, hq, e⟩ := List.mem_map.mp this
            exact ⟨q, hq, e⟩
          show rSetOfT X.K X.prog X.w [V.ref p] H1 (fun x H1 => rSortedT X.K X.prog X.w [x] H1 Q)
          rw [hK]
          refine ⟨p, ks, rfl, hs, fun q hq => sqT_same R1.sub (hk q hq).1, by omega, fun b L hb sub all => ?_⟩
          show rSortedT c.K X.prog X.w [V.ref b] _ Q
          have s2 : Same H1 (upd H1 b (SetTO X.prog X.w b L)) := fun d o z => by rw [upd_ne (ne_of_none z hb)]; exact z
          refine ⟨b, L, 2, 64, rfl, upd_same, fun q hq => sqT_same s2 (sqT_same R1.sub (hk q (sub q hq)).1), by decide, fun q hq => ?_, fun L' p' pm nd l64 pw hp => ?_⟩
          · obtain ⟨r, hr, e⟩ := of q (sub q hq)
            rw [e]
            refine ⟨rfl, fun m hm => ?_⟩
            obtain ⟨h1, h2, h3, h4⟩ := hin r hr
            rcases List.mem_cons.mp hm with e | hm
            · rw [e]; exact ⟨h1, h2⟩
            · rcases List.mem_cons.mp hm with e | hm
              · rw [e]; exact ⟨h3, h4⟩
              · cases hm
          · have inL : ∀ q ∈ L', q ∈ ks := fun q hq => sub q (pm.mem_iff.mp hq)
            have codes : L'.map (fun q => TS.code 64 q.2) = snub (ps.map cdP) := by
              refine up_one ?_ snub_up fun m => ?_
              · rw [List.pairwise_map]
                have nd2 : L'.Pairwise (fun q r => q.2 ≠ r.2) := List.pairwise_map.mp nd
                refine (pw.and nd2).imp_of_mem fun {q r} hq hr ⟨le, ne⟩ => ?_
                obtain ⟨x, hx, e1⟩ := of q (inL q hq)
                obtain ⟨z, hz, e2⟩ := of r (inL r hr)
                rw [code_cd e1, code_cd e2] at le ⊢
                rcases Int.lt_or_eq_of_le le with lt | eq
                · exact lt
                · exfalso
                  have : x = z := by rw [← dc_cd (hin x hx), ← dc_cd (hin z hz), eq]
                  rw [e1, e2, this] at ne
                  exact ne rfl
              · rw [mem_snub, List.mem_map, List.mem_map]
                constructor
                · rintro ⟨q, hq, rfl⟩
                  obtain ⟨r, hr, e⟩ := of q (inL q hq)
                  exact ⟨r, hr, (code_cd e).symm⟩
                · rintro ⟨r, hr, rfl⟩
                  obtain ⟨q, hq, e⟩ := back r hr
                  obtain ⟨q', hq', e'⟩ := List.mem_map.mp (all q hq)
                  exact ⟨q', pm.mem_iff.mpr hq', code_cd (e'.trans e)⟩
            have data : (L'.map fun q => PyData.tuple (q.2.map PyData.int)) = (srtP ps).map prD := by
              unfold srtP
              rw [← codes, List.map_map, List.map_map]
              refine List.map_congr_left fun q hq => ?_
              obtain ⟨r, hr, e⟩ := of q (inL q hq)
              show _ = prD (dcP (TS.code 64 q.2))
              rw [code_cd e, dc_cd (hin r hr), e]
              rfl
            have hd' : DzAll c.K F1 (L'.map fun q => V.ref q.1) ((srtP ps).map prD) := by
              rw [← data]
              exact dpAll_refs fun q hq => (hk q (inL q hq)).2
            have R2 : Rl c F1 (upd H1 b (SetTO X.prog X.w b L)) σ ρ' := R1.xt (Xt.raw R1.sub hb)
            obtain ⟨R3, f3⟩ := R2.fresh hp hd'
            exact k p' _ F1 s1 R3 f3
        · cases e
      · cases e
    · cases e
  · cases e
/-- one new list or another -/
def sOrI (f g : SI) : SI := fun ρ => match f ρ with
  | some r => some r
  | none => g ρ
theorem ef_or2 {e : Expr} {f g : SI} (hf : EF c X e f) (hg : EF c X e g) : EF c X e (sOrI f g) := by
  have h1 := hf.pe
  have h2 := hg.pe
  refine ⟨⟨fun pins s σ H Q I ⟨F, ρ, x, ρ', R, q, k⟩ => ?_⟩⟩
  unfold sOrI at q
  cases e1 : f ρ with
  | none =>
    rw [e1] at q
    exact h2.run pins s σ H Q I ⟨F, ρ, x, ρ', R, q, k⟩
  | some r =>
    rw [e1] at q
    cases q
    exact h1.run pins s σ H Q I ⟨F, ρ, x, ρ', R, e1, k⟩
end
end PD

/-! x > y of data -/
namespace PD
open PySem PySem.Spec PyProof.Rows L2 GxR LG
section
variable {X : Cx}
def rGtD (K : PySem.W.Frag) : R2 := fun x y H Q => ∃ d e, Dz K H x d ∧ Dz K H y e ∧ nod d = true ∧ nod e = true ∧ W.alike d e = true ∧ d ≠ .none ∧ d.depth ≤ 32 ∧ Q (.bl (W.dataLt e d)) H
theorem op_gtD (hu : X.A.units + 64 < cLine) : OpR X (compareOp .Gt) (rGtD X.K) := by
  intro pins s σ H x y v u Q I rx ry h
  obtain ⟨d, e, hx, hy, nx, ny, hal, hn, hd, q⟩ := h
  obtain ⟨as, ra⟩ := L2.Dp.reads I _ _ _ (dz_N hx nx) rx
  obtain ⟨bs, rb⟩ := L2.Dp.reads I _ _ _ (dz_N hy ny) ry
  exact W.gt_data ra rb hal hn (by have := Nat.min_le_left d.depth e.depth; omega) ⟨.bl _, H, I, rfl, q⟩
end
def noneD : PyData → Bool
  | .none => true
  | _ => false
def fGtD (d e : PyData) : Option PyData := if W.alike d e && !noneD d && decide (d.depth ≤ 32) && (nod d && nod e) then some (.bool (W.dataLt e d)) else none
theorem l2_gtD {K : PySem.W.Frag} : L2ok K (rGtD K) fGtD := by
  intro F H x y d e z Q s hx hy hf k
  unfold fGtD at hf
  split at hf
  · rename_i hc
    cases hf
    rw [Bool.and_eq_true, Bool.and_eq_true, Bool.and_eq_true, Bool.and_eq_true] at hc
    refine ⟨d, e, hx.dp s, hy.dp s, hc.2.1, hc.2.2, hc.1.1.1, fun z => ?_, of_decide_eq_true hc.1.2, k _ F H (Xt.refl s) (.bl _)⟩
    rw [z] at hc
    exact absurd hc.1.1.2 (by simp [noneD])
  · cases hf
end PD

/-! (x,) * k -/
namespace PD
open PySem PySem.Spec PyProof.Rows L2 GxR LG
def rRepF (K : PySem.W.Frag) : R2 := fun x y H Q => ∃ l k v, x = .ref l ∧ y = .int k ∧ SqT K H l [v] ∧ 2 ≤ k ∧ k ≤ 1000 ∧ NewT Q H (List.replicate k.toNat v)
theorem flat_one {α : Type} (x : α) : ∀ k : Nat, (List.replicate k [x]).flatten = List.replicate k x
  | 0 => rfl
  | k + 1 => by rw [List.replicate_succ, List.flatten_cons, flat_one x k, List.replicate_succ]; rfl
theorem vals_rep {v : V} {u : Value} (r : RelV v u) : ∀ k : Nat, Vals (List.replicate k v) (List.replicate k u)
  | 0 => .nil
  | k + 1 => .cons r (vals_rep r k)
section
variable {X : Cx}
theorem op_repF : OpR X (binaryOp .Mult) (rRepF X.K) := by
  intro pins s σ H x y v u Q I rx ry h
  obtain ⟨l, k, w, rfl, rfl, hT, h1, h2, q⟩ := h
  cases rx
  obtain ⟨t, rfl⟩ := ry
  obtain ⟨its, r, ⟨⟨cls, dd, data, sl⟩, ho, hc, n, hd⟩, hs⟩ := I.tuple hT
  simp only at hc hd
  subst hc hd
  obtain ⟨z, rfl, rz⟩ := r.one
  have lots : (List.foldl (fun x1 x2 => x1 ++ x2) #[] (List.replicate k.toNat [z].toArray)) = (List.replicate k.toNat z).toArray := by rw [size_rep, flat_one]
  have fits : (List.foldl (fun x1 x2 => x1 ++ x2) #[] (List.replicate k.toNat [z].toArray)).size ≤ sizeLine := by
    rw [lots, List.size_toArray, List.length_replicate, sizeLine_eq]
    omega
  have one : (([z].toArray.size : Nat) : Int) = 1 := rfl
  have c0 : (decide (k < -(2 ^ 63)) || decide (k ≥ 2 ^ 63)) = false := by rw [decide_eq_false (by omega), decide_eq_false (by omega)] <;> rfl
  have c1 : ([z].toArray.isEmpty || k == 1) = false := beq_eq_false_iff_ne.mpr (by omega)
  have c2 : (decide (k ≤ 0) || [z].toArray.isEmpty) = false := by rw [decide_eq_false (by omega)]; rfl
  have c3 : ¬ (([z].toArray.size : Nat) : Int) * k > (2 ^ 63 - 1) / 8 := by rw [one, Int.one_mul]; omega
  have c4 : Builtin.Tuple.tupleTooMany ((([z].toArray.size : Nat) : Int) * k) = false := by
    unfold Builtin.Tuple.tupleTooMany
    rw [one, Int.one_mul, sizeLine_eq]
    exact decide_eq_false (by omega)
  refine wpAny_binaryOp_repeat_ref (T := "tuple") (U := "int") (by decide) ⟨_, ho, rfl⟩ (fun s' => typeIs_int s' k t) noFill_tuple_mul F.fills_int_mul F.slot_int_rmul repeat_tuple F.slot_int_index.lookup
    (call_meets F.slot_int_rmul (typeIs_int s k t) F.entry_int_rmul (F.args_int_rmul_2 _ _) (int_rmul_tuple k t l [z].toArray n dd sl)
      ⟨ho, rfl, ⟨_, ho, rfl⟩, call_meets F.slot_tuple_mul ⟨_, ho, rfl⟩ F.entry_tuple_mul (F.args_tuple_mul_2 _ _) (tuple_mulW l [z].toArray n dd sl k t c0 c1 c2 c3 c4 fits) ⟨ho, ?_⟩⟩)
  rw [lots]
  exact new_t (s0 := s) (t' := s.toks) I (fun b ob q => Heap.get?_push_of_some _ q) (Nat.le_refl _) (Heap.get?_push_size _ rfl) (vals_rep rz k.toNat) (by rw [List.length_replicate, sizeLine_eq]; omega) q
end
def fRepT : PyData → PyData → Option PyData
  | .tuple [d], .int k => if 2 ≤ k ∧ k ≤ 1000 then some (.tuple (List.replicate k.toNat d)) else none
  | _, _ => none
theorem dpAll_rep1 {K : PySem.W.Frag} {F : Hp} {v : V} {d : PyData} (h : Dz K F v d) : ∀ k : Nat, DzAll K F (List.replicate k v) (List.replicate k d)
  | 0 => .nil
  | k + 1 => .cons h (dpAll_rep1 h k)
theorem l2_repT {K : PySem.W.Frag} : L2ok K (rRepF K) fRepT := by
  intro F H x y d e z Q s hx hy hf k
  unfold fRepT at hf
  split at hf
  · rename_i d0 j
    split at hf
    · rename_i hj
      cases hf
      obtain ⟨a, vs, rfl, ha, hd⟩ := hx.tup s
      cases hd with
      | cons h0 hs0 =>
        cases hs0
        exact ⟨a, j, _, rfl, hy.int, ha, hj.1, hj.2, fun p ob hp hob => k _ _ _ (Xt.new s hp hob) (dp_newT (s.free hp) (dpAll_rep1 h0 j.toNat))⟩
    · cases hf
  · cases hf
end PD

/-! Plain data: sum of a list or a tuple of ints -/
namespace PD
open PySem PySem.Spec PyProof.Rows L2 GxR LG
section
variable {X : Cx} {K : PySem.W.Frag}
def rSumT (K : PySem.W.Frag) : List V → Hp → VK → Prop := fun vs H Q => ∃ (a : Addr) (ns : List Int), vs = [V.ref a] ∧ SqT K H a (ns.map V.int) ∧ Q (.int ns.sum) H
theorem cr_sumT (hc : X.calm = true) : CallR X (.builtin "sum") (rSumT X.K) := by
  intro pins s σ H xs us Q I rv h
  obtain ⟨a, ns, rfl, hs, q⟩ := h
  obtain ⟨u, rfl, ru⟩ := rv.one
  cases (show u = Value.ref a from ru)
  obtain ⟨its, r, p, _⟩ := I.tuple hs
  have hl : s.heap.IsTuple a its.toArray := p
  obtain ⟨ys, hx⟩ := r.ints.allInts.items
  have hn : numsOf its.toArray.toList = ns := by rw [show its.toArray.toList = its from rfl, r.ints.numsOf]
  rw [hx] at hl hn
  rw [nums_intItems] at hn
  refine PySem.W.ktm_sumG (I.ok.hd hc) hl fun h' tk t' hk => ?_
  have e : (PySem.preSum (PySem.numAt ys) ys.size : Int) = ns.sum := by
    rw [preSum_eq, List.take_of_length_le (by simp), hn]
  rw [e]
  exact ⟨.int _, H, I.kept hk, ⟨_, rfl⟩, q⟩
def rSumA (K : PySem.W.Frag) : List V → Hp → VK → Prop := fun vs H Q => rSum K vs H Q ∨ rSumT K vs H Q
theorem cr_sumA (hc : X.calm = true) : CallR X (.builtin "sum") (rSumA X.K) := callr_or (cr_sum hc) (cr_sumT hc)
def fSumA : List PyData → Option PyData
  | [.list ds] => (intsOf ds).map fun ns => .int ns.sum
  | [.tuple ds] => (intsOf ds).map fun ns => .int ns.sum
  | _ => none
theorem ln_sumA : LNok K (rSumA K) fSumA := by
  intro F H vs ds z Q s hv hf k
  unfold fSumA at hf
  split at hf
  · rename_i ds
    obtain ⟨ns, e, rfl⟩ := Option.map_eq_some_iff.mp hf
    obtain ⟨v, rfl, h⟩ := vw1 hv
    obtain ⟨a, us, rfl, ha, hd⟩ := h.list s
    rw [intsOf_eq e] at hd
    rw [dpAll_ints hd] at ha
    exact .inl ⟨a, ns, rfl, ha, k _ F H (Xt.refl s) (.int _)⟩
  · rename_i ds
    obtain ⟨ns, e, rfl⟩ := Option.map_eq_some_iff.mp hf
    obtain ⟨v, rfl, h⟩ := vw1 hv
    obtain ⟨a, us, rfl, ha, hd⟩ := h.tup s
    rw [intsOf_eq e] at hd
    rw [dpAll_ints hd] at ha
    exact .inr ⟨a, ns, rfl, ha, k _ F H (Xt.refl s) (.int _)⟩
  · cases hf
end
end PD

/-! Plain data: dicts in the heap: what they hold, look-up, a value stored -/
namespace PD
open PySem PySem.Spec PyProof.Rows L2 GxR LG
/-! ### keys -/
mutual
theorem keyD_pl : ∀ {d : PyData} {k : NestedKey}, keyD d = some k → Plk k
  | .none, _, h => by
    simp only [keyD, Option.some.injEq] at h
    subst h
    exact .none
  | .int i, _, h => by
    simp only [keyD, Option.some.injEq] at h
    subst h
    exact .num i
  | .tuple ds, k, h => by
    simp only [keyD, Option.map_eq_some_iff] at h
    obtain ⟨ks, e, rfl⟩ := h
    exact .tup (keysD_pl e)
  | .bool _, _, h => by simp [keyD] at h
  | .str _, _, h => by simp [keyD] at h
  | .list _, _, h => by simp [keyD] at h
  | .dict _, _, h => by simp [keyD] at h
theorem keysD_pl : ∀ {ds : List PyData} {ks : List NestedKey}, keysD ds = some ks → ∀ k ∈ ks, Plk k
  | [], _, h, k, hk => by
    simp only [keysD, Option.some.injEq] at h
    subst h
    cases hk
  | d :: ds, ks, h, k, hk => by
    unfold keysD at h
    cases e : keyD d with
    | none => rw [e] at h; cases h
    | some k0 =>
      rw [e] at h
      obtain ⟨r, e2, rfl⟩ := Option.map_eq_some_iff.mp h
      rcases List.mem_cons.mp hk with rfl | hk
      · exact keyD_pl e
      · exact keysD_pl e2 k hk
end
theorem hashes_pl {w w' : World} : ∀ {ks : List NestedKey}, (∀ k ∈ ks, k.hash w = k.hash w') → NestedKey.hashes w ks = NestedKey.hashes w' ks
  | [], _ => by simp [NestedKey.hashes]
  | k :: ks, h => by
    rw [NestedKey.hashes, NestedKey.hashes, h k (List.mem_cons_self ..), hashes_pl fun k' hk => h k' (List.mem_cons_of_mem _ hk)]
theorem hash_pl (w w' : World) {k : NestedKey} (h : Plk k) : k.hash w = k.hash w' := by
  induction h with
  | none => simp [NestedKey.hash]
  | num i => simp [NestedKey.hash]
  | tup _ ih => rw [NestedKey.hash, NestedKey.hash, hashes_pl ih]
section
variable {X : Cx} {pins : List (Addr × Obj)} {σ : L2.St} {H : Hp} {s : Shared} {a : Addr}
mutual
/-- data that are a key are that key in the heap -/
theorem key_in (I : Inv X pins σ H s) : ∀ {d : PyData} {k : NestedKey} {v : V} {u : Value}, Dz X.K H v d → keyD d = some k → RelV v u → NestedIs s.heap k u
  | .none, _, _, _, h, e, r => by
    simp only [keyD, Option.some.injEq] at e
    subst e
    cases h
    cases r
    exact .none
  | .int i, _, _, _, h, e, r => by
    simp only [keyD, Option.some.injEq] at e
    subst e
    cases h
    obtain ⟨t, rfl⟩ := r
    exact .int i t
  | .tuple ds, _, _, _, h, e, r => by
    simp only [keyD, Option.map_eq_some_iff] at e
    obtain ⟨ks, e, rfl⟩ := e
    cases h with
    | tup hs ha =>
      cases r
      obtain ⟨its, rv, ⟨o, ho, hc, n, hd⟩, _⟩ := I.tuple hs
      exact .tup ho hc hd (keys_in I ha e rv)
  | .bool _, _, _, _, _, e, _ => by simp [keyD] at e
  | .str _, _, _, _, _, e, _ => by simp [keyD] at e
  | .list _, _, _, _, _, e, _ => by simp [keyD] at e
  | .dict _, _, _, _, _, e, _ => by simp [keyD] at e
theorem keys_in (I : Inv X pins σ H s) : ∀ {ds : List PyData} {ks : List NestedKey} {vs : List V} {us : List Value}, DzAll X.K H vs ds → keysD ds = some ks → Vals vs us → NestedAll s.heap ks us
  | [], _, _, _, h, e, r => by
    simp only [keysD, Option.some.injEq] at e
    subst e
    cases h
    cases r
    exact .nil
  | d :: ds, _, _, _, h, e, r => by
    cases h with
    | cons h hs =>
      cases r with
      | cons r rs =>
        unfold keysD at e
        cases e1 : keyD d with
        | none => rw [e1] at e; cases e
        | some k0 =>
          rw [e1] at e
          obtain ⟨ks, e2, rfl⟩ := Option.map_eq_some_iff.mp e
          exact .cons (key_in I h e1 r) (keys_in I hs e2 rs)
end
/-- the key of a dict's entry -/
def dkey : PyData → Option NestedKey
  | .tuple ds => match keysD ds with
    | some ks => if (NestedKey.tup ks).depth ≤ 8 then some (.tup ks) else none
    | none => none
  | _ => none
theorem dkey_use {d : PyData} {k : NestedKey} (h : dkey d = some k) : keyD d = some k ∧ k.depth ≤ 8 ∧ ∃ ds, d = .tuple ds := by
  unfold dkey at h
  split at h
  · rename_i ds
    split at h
    · rename_i ks e
      split at h
      · rename_i hd
        cases h
        exact ⟨by rw [keyD, e]; rfl, hd, ds, rfl⟩
      · cases h
    · cases h
  · cases h
/-! ### what a dict holds -/
def dLook (kvs : List (PyData × PyData)) (k : NestedKey) : Option PyData := (kvs.find? fun p => decide (keyD p.1 = some k)).map (·.2)
def dPut (kvs : List (PyData × PyData)) (k : NestedKey) (dk d : PyData) : List (PyData × PyData) :=
  if (dLook kvs k).isSome then kvs.map (fun p => if keyD p.1 = some k then (p.1, d) else p) else kvs ++ [(dk, d)]
theorem DeR.len : ∀ {xs : List (NestedKey × Addr × V)} {us : List (NestedKey × Addr × Value)}, Paired DeR xs us → xs.length = us.length
  | _, _, h => Paired.length h
theorem DeR.keys : ∀ {xs : List (NestedKey × Addr × V)} {us : List (NestedKey × Addr × Value)}, Paired DeR xs us → xs.map (·.1) = us.map (·.1)
  | _, _, .nil => rfl
  | _, _, .cons r t => by rw [List.map_cons, List.map_cons, r.1, DeR.keys t]
theorem kv_is (I : Inv X pins σ H s) : ∀ {xs : List (NestedKey × Addr × V)} {us : List (NestedKey × Addr × Value)} {kvs : List (PyData × PyData)}, Paired DeR xs us → DzKv X.K H xs kvs → ∀ q ∈ us, NestedIs s.heap q.1 (.ref q.2.1)
  | _, _, _, .nil, _, _, hq => by cases hq
  | _, _, _, .cons r t, .cons e1 h1 h2 hs, q, hq => by
    rcases List.mem_cons.mp hq with rfl | hq
    · obtain ⟨r1, r2, _⟩ := r
      dsimp only at r1 r2
      subst r1 r2
      exact key_in I h1 e1 rfl
    · exact kv_is I t hs q hq
/-- a dict's object at its place -/
theorem dct_at (I : Inv X pins σ H s) {xs : List (NestedKey × Addr × V)} {kvs : List (PyData × PyData)} (e : H a = some (DkO a xs)) (hk : DzKv X.K H xs kvs) :
    (a == sysModules) = false ∧ xs.length ≤ sizeLine ∧ (∀ x ∈ xs, Plk x.1 ∧ x.1.depth ≤ 8) ∧ (xs.map (·.1)).Nodup ∧ ∃ us, Paired DeR xs us ∧ s.heap.DictOfH (nestedKind X.prog X.w) a us := by
  obtain ⟨⟨h1, h2, h3, h4, w, us, o, es, ep, rel, g, ex, dat, ent⟩, _⟩ := I.hok a _ e
  refine ⟨h1, h2, h4, h3, us, rel, o, es, ep, g, ex, dat, ?_, fun q hq => ⟨kv_is I rel hk q hq, ?_⟩, by rw [← DeR.keys rel]; exact h3⟩
  · rw [ent]
    refine List.map_congr_left fun q hq => ?_
    have hm : q.1 ∈ xs.map (·.1) := by rw [DeR.keys rel]; exact List.mem_map.mpr ⟨q, hq, rfl⟩
    obtain ⟨x, hx, ex⟩ := List.mem_map.mp hm
    have := (h4 x hx).1
    rw [ex] at this
    show (⟨q.1.hash w, .ref q.2.1, q.2.2⟩ : DictEntry) = ⟨q.1.hash X.w, .ref q.2.1, q.2.2⟩
    rw [hash_pl w X.w this]
  · have hm : q.1 ∈ xs.map (·.1) := by rw [DeR.keys rel]; exact List.mem_map.mpr ⟨q, hq, rfl⟩
    obtain ⟨x, hx, ex⟩ := List.mem_map.mp hm
    have := (h4 x hx).2
    rw [ex] at this
    exact this
theorem look_at {K : PySem.W.Frag} {k : NestedKey} : ∀ {xs : List (NestedKey × Addr × V)} {us : List (NestedKey × Addr × Value)} {kvs : List (PyData × PyData)}, Paired DeR xs us → DzKv K H xs kvs →
    (dLook kvs k = none ∧ atKey us k = none) ∨ ∃ d v q, dLook kvs k = some d ∧ atKey us k = some q ∧ RelV v q.2 ∧ Dz K H v d
  | _, _, _, .nil, .nil => .inl ⟨rfl, rfl⟩
  | (k0, ak, v) :: xs0, b :: us0, (dk, d) :: kvs0, .cons r t, .cons e1 h1 h2 hs => by
    obtain ⟨r1, r2, r3⟩ := r
    dsimp only at r1 r2 r3
    by_cases h : k0 = k
    · refine .inr ⟨d, v, b.2, ?_, ?_, r3, h2⟩
      · unfold dLook
        rw [List.find?_cons_of_pos (by rw [decide_eq_true_eq, e1, h])]
        rfl
      · unfold atKey
        rw [List.find?_cons_of_pos (by rw [decide_eq_true_eq, ← r1, h])]
        rfl
    · have c1 : dLook ((dk, d) :: kvs0) k = dLook kvs0 k := by
        unfold dLook
        rw [List.find?_cons_of_neg (by rw [decide_eq_true_eq, e1]; exact fun z => h (Option.some.inj z))]
      have c2 : atKey (b :: us0) k = atKey us0 k := by
        unfold atKey
        rw [List.find?_cons_of_neg (by rw [decide_eq_true_eq, ← r1]; exact h)]
      rw [c1, c2]
      exact look_at t hs
theorem kv_len {K : PySem.W.Frag} : ∀ {xs : List (NestedKey × Addr × V)} {kvs : List (PyData × PyData)}, DzKv K H xs kvs → xs.length = kvs.length
  | _, _, .nil => rfl
  | _, _, .cons _ _ _ h => congrArg (· + 1) (kv_len h)
theorem Vw.dict {K : PySem.W.Frag} {F : Hp} {x : V} {kvs : List (PyData × PyData)} (h : Vw K F H x (.dict kvs)) (s : Same F H) : ∃ a xs, x = .ref a ∧ H a = some (DkO a xs) ∧ DzKv K F xs kvs := by
  rcases h with h | ⟨_, _, _, _, e, _⟩ | ⟨a, xs, _, rfl, e, h, hs⟩
  · cases h with
    | dct h hs => exact ⟨_, _, rfl, s _ _ h, hs⟩
  · cases e
  · cases e
    exact ⟨a, xs, rfl, h, hs⟩
/-! ### k in d, k not in d, d[k] -/
def rDk (K : PySem.W.Frag) (y x : V) (H : Hp) (Q : NestedKey → List (PyData × PyData) → Prop) : Prop := ∃ dk k a xs kvs, Dz K H y dk ∧ dkey dk = some k ∧ x = .ref a ∧ H a = some (DkO a xs) ∧ DzKv K H xs kvs ∧ Q k kvs
def rInK (K : PySem.W.Frag) : R2 := fun y x H Q => rDk K y x H fun k kvs => Q (.bl (dLook kvs k).isSome) H
def rNotInK (K : PySem.W.Frag) : R2 := fun y x H Q => rDk K y x H fun k kvs => Q (.bl (!(dLook kvs k).isSome)) H
theorem key_ref {K : PySem.W.Frag} {y : V} {dk : PyData} {k : NestedKey} (h : Dz K H y dk) (e : dkey dk = some k) : ∃ b, y = .ref b := by
  obtain ⟨_, _, ds, rfl⟩ := dkey_use e
  cases h with
  | tup _ _ => exact ⟨_, rfl⟩
theorem op_inK (hu : X.A.units + 20 < cLine) : OpR X (compareOp .In) (rInK X.K) := by
  intro pins s σ H y x v u Q I ry rx h
  obtain ⟨dk, k, a, xs, kvs, hy, ek, rfl, hH, hk, q⟩ := h
  obtain ⟨b, rfl⟩ := key_ref hy ek
  cases rx
  cases ry
  obtain ⟨e1, e2, _⟩ := dkey_use ek
  obtain ⟨hd, _, _, _, us, rel, dd⟩ := dct_at I hH hk
  refine wpAny_in_heap (knd := nestedKind X.prog X.w) (k := k) (show X.A.units + 1 + 8 < cLine by omega) ⟨key_in I hy e1 rfl, e2⟩ hd dd ?_
  rcases look_at (k := k) rel hk with ⟨l1, l2⟩ | ⟨d, v, p, l1, l2, _, _⟩
  · rw [l2]
    rw [l1] at q
    exact ⟨.bl false, H, I.tok _, rfl, q⟩
  · rw [l2]
    rw [l1] at q
    exact ⟨.bl true, H, I.tok _, rfl, q⟩
theorem op_notInK (hu : X.A.units + 20 < cLine) : OpR X (compareOp .NotIn) (rNotInK X.K) := by
  intro pins s σ H y x v u Q I ry rx h
  obtain ⟨dk, k, a, xs, kvs, hy, ek, rfl, hH, hk, q⟩ := h
  obtain ⟨b, rfl⟩ := key_ref hy ek
  cases rx
  cases ry
  obtain ⟨e1, e2, _⟩ := dkey_use ek
  obtain ⟨hd, _, _, _, us, rel, dd⟩ := dct_at I hH hk
  refine wpAny_notIn_heap (knd := nestedKind X.prog X.w) (k := k) (show X.A.units + 1 + 8 < cLine by omega) ⟨key_in I hy e1 rfl, e2⟩ hd dd ?_
  rcases look_at (k := k) rel hk with ⟨l1, l2⟩ | ⟨d, v, p, l1, l2, _, _⟩
  · rw [l2]
    rw [l1] at q
    exact ⟨.bl true, H, I.tok _, rfl, q⟩
  · rw [l2]
    rw [l1] at q
    exact ⟨.bl false, H, I.tok _, rfl, q⟩
def fInK : PyData → PyData → Option PyData
  | d, .dict kvs => (dkey d).map fun k => .bool (dLook kvs k).isSome
  | _, _ => none
def fNotInK : PyData → PyData → Option PyData
  | d, .dict kvs => (dkey d).map fun k => .bool (!(dLook kvs k).isSome)
  | _, _ => none
theorem l2_inK {K : PySem.W.Frag} : L2ok K (rInK K) fInK := by
  intro F H y x d e z Q s hy hx hf k
  unfold fInK at hf
  split at hf
  · rename_i kvs
    obtain ⟨kk, ek, rfl⟩ := Option.map_eq_some_iff.mp hf
    obtain ⟨a, xs, rfl, h1, h2⟩ := hx.dict s
    exact ⟨_, kk, a, xs, kvs, hy.dp s, ek, rfl, h1, dpKv_same s h2, k _ F H (Xt.refl s) (.bl _)⟩
  · cases hf
theorem l2_notInK {K : PySem.W.Frag} : L2ok K (rNotInK K) fNotInK := by
  intro F H y x d e z Q s hy hx hf k
  unfold fNotInK at hf
  split at hf
  · rename_i kvs
    obtain ⟨kk, ek, rfl⟩ := Option.map_eq_some_iff.mp hf
    obtain ⟨a, xs, rfl, h1, h2⟩ := hx.dict s
    exact ⟨_, kk, a, xs, kvs, hy.dp s, ek, rfl, h1, dpKv_same s h2, k _ F H (Xt.refl s) (.bl _)⟩
  · cases hf
end
end PD

/-! Plain data: d[k], d[k] = v, {} and {k: v} -/
namespace PD
open PySem PySem.Spec PyProof.Rows L2 GxR LG
section
variable {X : Cx} {H : Hp} {K : PySem.W.Frag}
/-! ### d[k] -/
def rIxK (K : PySem.W.Frag) : R2 := fun x y H Q => ∃ F dk k a xs kvs d, Same F H ∧ Dz K H y dk ∧ dkey dk = some k ∧ x = .ref a ∧ H a = some (DkO a xs) ∧ DzKv K F xs kvs ∧ dLook kvs k = some d ∧ ∀ v, Dz K F v d → Q v H
theorem ix_dct (hu : X.A.units + 20 < cLine) : IxR X (rIxK X.K) := by
  intro value slice pins s σ H x y v u Q I rx ry h hs
  obtain ⟨F, dk, k, a, xs, kvs, d, sF, hy, ek, rfl, hH, hk, hd, q⟩ := h
  obtain ⟨b, rfl⟩ := key_ref hy ek
  cases rx
  cases ry
  obtain ⟨e1, e2, _⟩ := dkey_use ek
  obtain ⟨_, _, _, _, us, rel, dd⟩ := dct_at I hH (dpKv_same sF hk)
  rcases look_at (k := k) rel hk with ⟨l1, l2⟩ | ⟨d', w, p, l1, l2, l3, l4⟩
  · rw [l1] at hd
    cases hd
  · rw [l1] at hd
    cases hd
    refine subscriptTail_builtinR (x := p.2) dd.typeIs PySem.F.slot_dict_getitem.lookup (wpAny_getItem_heap (knd := nestedKind X.prog X.w) (k := k) (show X.A.units + 1 + 8 < cLine by omega) ⟨key_in I hy e1 rfl, e2⟩ dd l2 ?_) hs
    exact ⟨rfl, w, H, I.tok _, l3, q w l4⟩
def fIxK : PyData → PyData → Option PyData
  | .dict kvs, d => (dkey d).bind fun k => dLook kvs k
  | _, _ => none
theorem l2_ixK : L2ok K (rIxK K) fIxK := by
  intro F H x y d e z Q s hx hy hf k
  unfold fIxK at hf
  split at hf
  · rename_i kvs
    obtain ⟨kk, ek, el⟩ := Option.bind_eq_some_iff.mp hf
    obtain ⟨a, xs, rfl, h1, h2⟩ := hx.dict s
    exact ⟨F, _, kk, a, xs, kvs, z, s, hy.dp s, ek, rfl, h1, h2, el, fun v hv => k v F H (Xt.refl s) hv⟩
  · cases hf
/-! ### d[k] = v -/
def vHas (xs : List (NestedKey × Addr × V)) (k : NestedKey) : Bool := (xs.find? fun x => decide (x.1 = k)).isSome
def vPut (xs : List (NestedKey × Addr × V)) (k : NestedKey) (b : Addr) (v : V) : List (NestedKey × Addr × V) :=
  if vHas xs k then xs.map (fun x => if x.1 = k then (x.1, x.2.1, v) else x) else xs ++ [(k, b, v)]
theorem has_us {k : NestedKey} : ∀ {xs : List (NestedKey × Addr × V)} {us : List (NestedKey × Addr × Value)}, Paired DeR xs us → (atKey us k).isSome = vHas xs k
  | _, _, .nil => rfl
  | x :: xs0, b :: us0, .cons r t => by
    obtain ⟨r1, _, _⟩ := r
    by_cases h : x.1 = k
    · unfold vHas atKey
      rw [List.find?_cons_of_pos (by rw [decide_eq_true_eq, ← r1]; exact h), List.find?_cons_of_pos (by rw [decide_eq_true_eq]; exact h)]
      rfl
    · have ih := has_us (k := k) t
      unfold vHas atKey at ih ⊢
      rw [List.find?_cons_of_neg (by rw [decide_eq_true_eq, ← r1]; exact h), List.find?_cons_of_neg (by rw [decide_eq_true_eq]; exact h)]
      exact ih
theorem has_kv {k : NestedKey} : ∀ {xs : List (NestedKey × Addr × V)} {kvs : List (PyData × PyData)}, DzKv K H xs kvs → (dLook kvs k).isSome = vHas xs k
  | _, _, .nil => rfl
  | (k0, ak, v) :: xs0, (dk, d) :: kvs0, .cons e1 _ _ hs => by
    by_cases h : k0 = k
    · unfold vHas dLook
      rw [List.find?_cons_of_pos (by rw [decide_eq_true_eq, e1, h]), List.find?_cons_of_pos (by rw [decide_eq_true_eq]; exact h)]
      rfl
    · have ih := has_kv (k := k) hs
      unfold vHas dLook at ih ⊢
      rw [List.find?_cons_of_neg (by rw [decide_eq_true_eq, e1]; exact fun z => h (Option.some.inj z)), List.find?_cons_of_neg (by rw [decide_eq_true_eq]; exact h)]
      exact ih
theorem put_map {k : NestedKey} {v : V} {u : Value} (r : RelV v u) : ∀ {xs : List (NestedKey × Addr × V)} {us : List (NestedKey × Addr × Value)}, Paired DeR xs us → Paired DeR (xs.map fun x => if x.1 = k then (x.1, x.2.1, v) else x) (us.map (putAt k u))
  | _, _, .nil => .nil
  | x :: xs0, b :: us0, .cons q t => by
    rw [List.map_cons, List.map_cons]
    refine .cons ?_ (put_map r t)
    obtain ⟨q1, q2, q3⟩ := q
    unfold putAt
    by_cases h : x.1 = k
    · rw [if_pos h, if_pos (by rw [← q1]; exact h)]
      exact ⟨q1, q2, r⟩
    · rw [if_neg h, if_neg (by rw [← q1]; exact h)]
      exact ⟨q1, q2, q3⟩
theorem paired_snoc {α β : Type} {R : α → β → Prop} {a : α} {b : β} (r : R a b) : ∀ {xs : List α} {ys : List β}, Paired R xs ys → Paired R (xs ++ [a]) (ys ++ [b])
  | _, _, .nil => .cons r .nil
  | _, _, .cons q t => .cons q (paired_snoc r t)
theorem put_us {k : NestedKey} {b : Addr} {v : V} {u : Value} (r : RelV v u) {xs : List (NestedKey × Addr × V)} {us : List (NestedKey × Addr × Value)} (h : Paired DeR xs us) : Paired DeR (vPut xs k b v) (storedH us k b u) := by
  unfold vPut storedH
  rw [has_us h]
  by_cases c : vHas xs k = true
  · rw [if_pos c, if_pos c]
    exact put_map r h
  · rw [if_neg c, if_neg c]
    exact paired_snoc ⟨rfl, rfl, r⟩ h
theorem kv_map {k : NestedKey} {v : V} {d : PyData} (hv : Dz K H v d) : ∀ {xs : List (NestedKey × Addr × V)} {kvs : List (PyData × PyData)}, DzKv K H xs kvs → DzKv K H (xs.map fun x => if x.1 = k then (x.1, x.2.1, v) else x) (kvs.map fun p => if keyD p.1 = some k then (p.1, d) else p)
  | _, _, .nil => .nil
  | (k0, ak, v0) :: xs0, (dk, d0) :: kvs0, .cons e1 h1 h2 hs => by
    rw [List.map_cons, List.map_cons]
    by_cases h : k0 = k
    · rw [if_pos h, if_pos (by rw [e1, h])]
      exact .cons e1 h1 hv (kv_map hv hs)
    · rw [if_neg h, if_neg (by rw [e1]; exact fun z => h (Option.some.inj z))]
      exact .cons e1 h1 h2 (kv_map hv hs)
theorem kv_snoc {k : NestedKey} {b : Addr} {v : V} {dk d : PyData} (e : keyD dk = some k) (hk : Dz K H (.ref b) dk) (hv : Dz K H v d) : ∀ {xs : List (NestedKey × Addr × V)} {kvs : List (PyData × PyData)}, DzKv K H xs kvs → DzKv K H (xs ++ [(k, b, v)]) (kvs ++ [(dk, d)])
  | _, _, .nil => .cons e hk hv .nil
  | _, _, .cons e1 h1 h2 hs => .cons e1 h1 h2 (kv_snoc e hk hv hs)
theorem put_kv {k : NestedKey} {b : Addr} {v : V} {dk d : PyData} (e : keyD dk = some k) (hk : Dz K H (.ref b) dk) (hv : Dz K H v d) {xs : List (NestedKey × Addr × V)} {kvs : List (PyData × PyData)} (h : DzKv K H xs kvs) : DzKv K H (vPut xs k b v) (dPut kvs k dk d) := by
  unfold vPut dPut
  rw [has_kv h]
  by_cases c : vHas xs k = true
  · rw [if_pos c, if_pos c]
    exact kv_map hv h
  · rw [if_neg c, if_neg c]
    exact kv_snoc e hk hv h
theorem put_keys {k : NestedKey} {b : Addr} {v : V} {P : NestedKey → Prop} (hk : P k) {xs : List (NestedKey × Addr × V)} (h : ∀ x ∈ xs, P x.1) : ∀ x ∈ vPut xs k b v, P x.1 := fun x hx => by
  unfold vPut at hx
  split at hx
  · obtain ⟨y, hy, rfl⟩ := List.mem_map.mp hx
    split
    · exact h y hy
    · exact h y hy
  · rcases List.mem_append.mp hx with hx | hx
    · exact h x hx
    · rw [List.mem_singleton.mp hx]
      exact hk
theorem put_len {k : NestedKey} {b : Addr} {v : V} (xs : List (NestedKey × Addr × V)) : (vPut xs k b v).length ≤ xs.length + 1 := by
  unfold vPut
  split
  · rw [List.length_map]
    omega
  · rw [List.length_append]
    exact Nat.le_refl _
def rSetK (K : PySem.W.Frag) : TSet := fun o i v H Q => ∃ dk k a b xs kvs, o = .ref a ∧ i = .ref b ∧ H a = some (DkO a xs) ∧ DzKv K H xs kvs ∧ Dz K H (.ref b) dk ∧ dkey dk = some k ∧ xs.length < 1000000 ∧ Q (upd H a (DkO a (vPut xs k b v)))
theorem pset_dct (hu : X.A.units + 20 < cLine) : PSet X (rSetK X.K) := by
  intro pins s σ H o i v ov iv u Q I ro ri rv h
  obtain ⟨dk, k, a, b, xs, kvs, rfl, rfl, hH, hk, hy, ek, hn, q⟩ := h
  cases ro
  cases ri
  obtain ⟨e1, e2, _⟩ := dkey_use ek
  obtain ⟨hd, _, hp, nd, us, rel, dd⟩ := dct_at I hH hk
  have hl := DeR.len rel
  have z := sizeLine_eq
  refine wpAny_setItem_heap (knd := nestedKind X.prog X.w) (hsz := by omega) (k := k) (show X.A.units + 1 + 8 < cLine by omega) ⟨key_in I hy e1 rfl, e2⟩ dd fun h' dd' hs => ⟨_, ?_, q⟩
  obtain ⟨ob, es, ep, hq, h2, h3, h4, _, h5⟩ := dd'
  have pl := put_us (k := k) (b := b) rv rel
  refine d_write I (by rw [hH]; exact True.intro) hs ⟨ob, hq⟩ ⟨⟨hd, ?_, ?_, put_keys (P := fun k => Plk k ∧ k.depth ≤ 8) ⟨keyD_pl e1, e2⟩ hp, X.w, _, ob, es, ep, pl, hq, h2, h3, h4⟩, ⟨ob, hq⟩, fun h1 h2 c k => ?_⟩
  · have := put_len (k := k) (b := b) (v := v) xs
    omega
  · rw [DeR.keys pl]
    exact h5
  · obtain ⟨c1, c2, c3, c4, w, us', o', es', ep', c5, c6, c7⟩ := c
    exact ⟨c1, c2, c3, c4, w, us', o', es', ep', c5, k _ c6, c7⟩
end
/-! ### a dict of the def's own -/
section
variable {c : Co} {F F' H H' : Hp} {σ : L2.St} {ρ : Ev}
def dicAt (ρ : Ev) (i : Nat) : Option (List (PyData × PyData)) := match ρ[i]? with
  | some (.dic kvs) => some kvs
  | _ => none
theorem dicAt_use {ρ : Ev} {i : Nat} {kvs : List (PyData × PyData)} (h : dicAt ρ i = some kvs) : ρ[i]? = some (.dic kvs) := by
  unfold dicAt at h
  split at h
  · rename_i e
    cases h
    exact e
  · cases h
/-- its object changes -/
theorem Rl.putDic {i : Nat} {a : Addr} {kvs kvs' : List (PyData × PyData)} {xs' : List (NestedKey × Addr × V)} (R : Rl c F H σ ρ) (q : ρ[i]? = some (Sl.dic kvs)) (hv : vAt σ i = some (.ref a)) (hk : DzKv c.K F xs' kvs') : Rl c F (upd H a (DkO a xs')) σ (ρ.set i (.dic kvs')) := by
  obtain ⟨a', xs, e1, e2, e3, e4, e5, e6⟩ := R.sl i _ q
  rw [hv] at e1
  cases e1
  have hi : i < ρ.length := (List.getElem?_eq_some_iff.mp q).1
  have nio : ∀ b ∈ c.io, b ≠ a := fun b hb z => (R.ioh b hb).1 (by rw [z]; exact e6)
  have far : ∀ {j : Nat} {sl : Sl}, i ≠ j → (ρ.set i (.dic kvs'))[j]? = some sl → ρ[j]? = some sl := fun {j sl} hj e => by
    rw [List.getElem?_set_ne hj] at e
    exact e
  have notd : ∀ {j : Nat} {ds : List PyData}, (ρ.set i (.dic kvs'))[j]? = some (Sl.own ds) → ρ[j]? = some (Sl.own ds) := fun {j ds} e => by
    by_cases hj : i = j
    · subst hj
      rw [List.getElem?_set_self hi] at e
      cases e
    · exact far hj e
  have notd2 : ∀ {j : Nat} {ds : List PyData}, (ρ.set i (.dic kvs'))[j]? = some (Sl.io ds) → ρ[j]? = some (Sl.io ds) := fun {j ds} e => by
    by_cases hj : i = j
    · subst hj
      rw [List.getElem?_set_self hi] at e
      cases e
    · exact far hj e
  have dics : ∀ {j : Nat} {ks : List (PyData × PyData)}, (ρ.set i (.dic kvs'))[j]? = some (Sl.dic ks) → ∃ ks', ρ[j]? = some (Sl.dic ks') := fun {j ks} e => by
    by_cases hj : i = j
    · subst hj
      exact ⟨_, q⟩
    · exact ⟨_, far hj e⟩
  refine ⟨by rw [List.length_set]; exact R.len, fun b x e => ?_, R.ft, fun P hP => ?_, R.mono, fun b x e h1 h2 => ?_, fun b hb => ?_, fun j sl e => ?_, fun j m b x y h1 h2 h3 h4 => R.dj j m b x y (notd h1) (notd h2) h3 h4, fun j m x y h1 h2 => R.iu j m x y (notd2 h1) (notd2 h2), R.nw, R.tf, fun j m b x y h1 h2 h3 h4 => ?_⟩
  · rw [upd_ne (ne_of_none e e4)]
    exact R.sub _ _ e
  · obtain ⟨ps, e, t⟩ := R.tb P hP
    have nP : P ≠ a := fun z => e5 (by rw [← z]; exact hP)
    exact ⟨ps, by rw [upd_ne nP]; exact e, t⟩
  · rw [upd_ne (ne_of_none e e6)]
    exact R.fr b x e h1 h2
  · obtain ⟨h1, h2, h3, ws, h4⟩ := R.ioh b hb
    exact ⟨h1, h2, h3, ws, by rw [upd_ne (nio b hb)]; exact h4⟩
  · by_cases hj : i = j
    · subst hj
      rw [List.getElem?_set_self hi] at e
      cases e
      exact ⟨a, xs', hv, upd_same, hk, e4, e5, e6⟩
    · have old := R.sl j sl (far hj e)
      cases sl with
      | un => trivial
      | fn n => exact old
      | dat d => exact old
      | own es =>
        obtain ⟨b, ws, x1, h1, h2, h3, h4⟩ := old
        have nb : b ≠ a := fun z => by
          rw [z, e2] at h1
          cases h1
        exact ⟨b, ws, x1, by rw [upd_ne nb]; exact h1, h2, h3, h4⟩
      | io es =>
        obtain ⟨b, ws, x0, x1, h1, h2, h3, h4⟩ := old
        exact ⟨b, ws, x0, x1, by rw [upd_ne (nio b (by rw [x0]; simp))]; exact h1, h2, h3, h4⟩
      | dic es =>
        obtain ⟨b, ws, x1, h1, h2, h3, h4⟩ := old
        have nb : b ≠ a := fun z => hj (R.dk i j a kvs es q (far hj e) hv (by rw [x1, z]))
        exact ⟨b, ws, x1, by rw [upd_ne nb]; exact h1, h2, h3, h4⟩
  · obtain ⟨x', g1⟩ := dics h1
    obtain ⟨y', g2⟩ := dics h2
    exact R.dk j m b x' y' g1 g2 h3 h4
end
section
variable {c : Co} {X : Cx} {e : Expr} {pos : Pos}
def sSetK (i : Nat) (fk fe : SE) : SS := fun ρ => match fe ρ with
  | some (.d y, ρ1) => match dicAt ρ1 i with
    | none => none
    | some _ => match fk ρ1 with
      | some (.d dk, ρ2) => match dicAt ρ2 i with
        | some kvs => match dkey dk with
          | some k => if kvs.length < 1000000 then some (.nx, ρ2.set i (.dic (dPut kvs k dk y))) else none
          | none => none
        | none => none
      | _ => none
  | _ => none
theorem es_setK (i : Nat) {fk fe : SE} {st : Stmt} {ie : Expr} (hK : X.K = c.K) (h : ∀ {te ti : TE}, PE X e te → PE X ie ti → PS X st (tAsg te (gSub (tVar i) ti (rSetK X.K)))) (he : EO c X e fe) (hi : EO c X ie fk) : ES c X st (sSetK i fk fe) := by
  refine ⟨ps_imp (h he.pe hi.pe) fun D σ H ⟨F, ρ, fl, ρ', R, e, k⟩ => ?_⟩
  unfold sSetK at e
  cases e1 : fe ρ with
  | none => rw [e1] at e; cases e
  | some p =>
    obtain ⟨x, ρ1⟩ := p
    rw [e1] at e
    cases x with
    | s i => cases e
    | d y =>
      dsimp only at e
      cases e2 : dicAt ρ1 i with
      | none => rw [e2] at e; cases e
      | some rs1 =>
        rw [e2] at e
        dsimp only at e
        split at e
        · rename_i dk ρ2 e3
          cases e4 : dicAt ρ2 i with
          | none => rw [e4] at e; cases e
          | some kvs =>
            rw [e4] at e
            dsimp only at e
            cases e5 : dkey dk with
            | none => rw [e5] at e; cases e
            | some kk =>
              rw [e5] at e
              dsimp only at e
              split at e
              · rename_i hn
                cases e
                refine ⟨F, ρ, _, ρ1, R, e1, fun v H1 F1 s1 R1 o1 => ?_⟩
                obtain ⟨r, xs1, v0, v1, v2, v3, v4, v5⟩ := R1.sl i _ (dicAt_use e2)
                refine ⟨.ref r, vAt_eq v0, F1, ρ1, _, ρ2, R1, e3, fun w H2 F2 s2 R2 o2 => ?_⟩
                have q := dicAt_use e4
                obtain ⟨r2, xs2, w0, w1, w2, w3, w4, w5⟩ := R2.sl i _ q
                rw [v0] at w0
                cases w0
                have o2' : Dz c.K F2 w dk := o2
                obtain ⟨b, rfl⟩ := key_ref o2' e5
                refine ⟨dk, kk, r, b, xs2, kvs, rfl, rfl, w1, ?_, ?_, e5, by rw [kv_len w2]; exact hn, ?_⟩
                · rw [hK]
                  exact dpKv_same R2.sub w2
                · rw [hK]
                  exact dp_same R2.sub o2'
                · exact k σ _ F2 (s1.trans s2) (R2.putDic q v0 (put_kv (dkey_use e5).1 o2' (dp_same s2 o1) w2))
              · cases e
        · cases e
/-! ### {} and {k: v} -/
def tNewK : TE := fun _ H Q => ∀ p, H p = none → Q (.ref p) (upd H p (DkO p []))
theorem pe_newK {X : Cx} {pos : Pos} : PE X (.Dict [] [] pos) tNewK := ⟨fun pins s σ H Q I h =>
  wpAny_Dict_empty ⟨.ref s.heap.objs.size, _, I.laid (a := s.heap.objs.size) (o := DkO s.heap.objs.size []) (t' := s.toks) (fun _ _ q => Heap.get?_push_of_some _ q) (Nat.le_refl _)
    ⟨⟨beq_eq_false_iff_ne.mpr (Ne.symm (Nat.ne_of_lt I.big)), Nat.zero_le _, List.nodup_nil, fun _ z => (by cases z), X.w, [], _, #[], 0, .nil, Heap.get?_push_size _ rfl, ⟨rfl, rfl, rfl⟩, rfl, rfl⟩, ⟨_, Heap.get?_push_size _ rfl⟩, fun h1 h2 c k => by
      obtain ⟨c1, c2, c3, c4, w, us', o', es', ep', c5, c6, c7⟩ := c
      exact ⟨c1, c2, c3, c4, w, us', o', es', ep', c5, k _ c6, c7⟩⟩, rfl, h _ (I.hok.fresh (Nat.le_refl _))⟩⟩
end
end PD

/-! Plain data: x = {}, x = {k: v} -/
namespace PD
open PySem PySem.Spec PyProof.Rows L2 GxR LG
section
variable {X : Cx} {pos : Pos}
def tNew1 (tk tv : TE) : TE := fun σ H Q => ∀ p, H p = none → tk σ (upd H p (DkO p [])) fun y H1 => tv σ H1 fun v H2 =>
  H2 p = some (DkO p []) ∧ ∃ dk k b, y = .ref b ∧ Dz X.K H2 (.ref b) dk ∧ dkey dk = some k ∧ Q (.ref p) (upd H2 p (DkO p [(k, b, v)]))
theorem new_obj {P : Program} {w : World} {H : Hp} (h : Heap) (hb : sysModules < h.objs.size) : ObjOk P w H (h.push { cls := .type "dict", data := .dict #[] }) h.objs.size (DkO h.objs.size []) :=
  ⟨⟨beq_eq_false_iff_ne.mpr (Ne.symm (Nat.ne_of_lt hb)), Nat.zero_le _, List.nodup_nil, fun _ z => (by cases z), w, [], _, #[], 0, .nil, Heap.get?_push_size _ rfl, ⟨rfl, rfl, rfl⟩, rfl, rfl⟩, ⟨_, Heap.get?_push_size _ rfl⟩, fun h1 h2 c k => by
      obtain ⟨c1, c2, c3, c4, w, us', o', es', ep', c5, c6, c7⟩ := c
      exact ⟨c1, c2, c3, c4, w, us', o', es', ep', c5, k _ c6, c7⟩⟩
def n1Q (X : Cx) (p : Addr) (Q : VK) : List (V × V) → Hp → Prop := fun ps H2 => match ps with
  | [(y, v)] => H2 p = some (DkO p []) ∧ ∃ dk k b, y = .ref b ∧ Dz X.K H2 (.ref b) dk ∧ dkey dk = some k ∧ Q (.ref p) (upd H2 p (DkO p [(k, b, v)]))
  | _ => False
theorem pe_new1 {k v : Expr} {tk tv : TE} (hu : X.A.units + 20 < cLine) (hk : PE X k tk) (hv : PE X v tv) : PE X (.Dict [some k] [v] pos) (tNew1 (X := X) tk tv) := by
  refine ⟨fun pins s σ H Q I q => ?_⟩
  have hn := I.hok.fresh (Nat.le_refl s.heap.objs.size)
  have I1 := I.laid (a := s.heap.objs.size) (o := DkO s.heap.objs.size []) (h' := s.heap.push { cls := .type "dict", data := .dict #[] }) (t' := s.toks) (fun _ _ z => Heap.get?_push_of_some _ z) (Nat.le_refl _) (new_obj s.heap I.big)
  have st : tPairs [(tk, tv)] σ (upd H s.heap.objs.size (DkO s.heap.objs.size [])) (n1Q X s.heap.objs.size Q) := q _ hn
  have pr := (pps_cons (pos := pos) hk hv pps_nil).run pins _ σ _ _ I1 st
  have zp := zip_pairTrees [some k] [v] X.env pos rfl rfl
  have ln := pairTrees_length [some k] [v] X.env pos rfl rfl
  have ne0 : pairTrees [some k] [v] X.env pos ≠ [] := fun z => by
    rw [z] at ln
    cases ln
  rw [arm_eval_Dict]
  rw [zp]
  rw [dictDisplay_pairs _ ne0 (by rw [ln]; show (1 : Nat) < 17; omega)]
  refine wpAny_bind (wpAny_standAt (wpAny_bind ?_))
  refine wpAny_subDictH (knd := nestedKind X.prog X.w) (show X.A.units + 8 < cLine by omega) (by rw [ln]; show (1 : Nat) ≤ 15; omega) (wpAny_mono pr (fun ws s2 hh => ?_) fun _ _ e => e)
  obtain ⟨ps, H2, I2, rel, nq⟩ := hh
  match ps, nq, rel with
  | [(y, v')], ⟨hp, dk, kk, b, ey, hy, ek, qq⟩, .cons (b := wq) r t =>
    cases t
    subst ey
    obtain ⟨r1, r2⟩ := r
    obtain ⟨wk, wv⟩ := wq
    have r1 : wk = Value.ref b := r1
    have r2 : RelV v' wv := r2
    subst r1
    obtain ⟨e1, e2, _⟩ := dkey_use ek
    obtain ⟨hd, _, _, _, us, ru, dd⟩ := dct_at I2 hp DzKv.nil
    cases ru
    refine ⟨[(kk, b, wv)], ⟨rfl, rfl, ⟨key_in I2 hy e1 rfl, e2⟩, trivial⟩, dd, fun h' tk' dd' hs => ?_⟩
    obtain ⟨ob, es, ep, hq, h2, h3, h4, _, h5⟩ := dd'
    have z := sizeLine_eq
    refine wpAny_pure ⟨.ref s.heap.objs.size, _, d_write (ob := DkO s.heap.objs.size [(kk, b, v')]) I2 (by rw [hp]; exact True.intro) hs ⟨ob, hq⟩ ⟨⟨hd, by rw [List.length_singleton]; omega, by simp, fun x hx => by rw [List.mem_singleton.mp hx]; exact ⟨keyD_pl e1, e2⟩, X.w, [(kk, b, wv)], ob, es, ep, .cons ⟨rfl, rfl, r2⟩ .nil, hq, h2, h3, h4⟩, ⟨ob, hq⟩, fun h1 h2 c k => ?_⟩, rfl, qq⟩
    obtain ⟨c1, c2, c3, c4, w, us', o', es', ep', c5, c6, c7⟩ := c
    exact ⟨c1, c2, c3, c4, w, us', o', es', ep', c5, k _ c6, c7⟩
end
/-! ### a slot that gets a new dict -/
section
variable {c : Co} {F H : Hp} {σ : L2.St} {ρ : Ev}
/-- no slot's own thing stands at p -/
def Away (σ : L2.St) (ρ : Ev) (p : Addr) : Prop := (∀ (j : Nat) es, ρ[j]? = some (Sl.own es) → vAt σ j ≠ some (.ref p)) ∧ ∀ (j : Nat) es, ρ[j]? = some (Sl.dic es) → vAt σ j ≠ some (.ref p)
theorem Rl.away (R : Rl c F H σ ρ) {p : Addr} (hp : H p = none) : Away σ ρ p := by
  refine ⟨fun j es e z => ?_, fun j es e z => ?_⟩
  · obtain ⟨a, ws, e1, e2, _⟩ := R.sl j _ e
    rw [z] at e1
    cases e1
    rw [hp] at e2
    cases e2
  · obtain ⟨a, ws, e1, e2, _⟩ := R.sl j _ e
    rw [z] at e1
    cases e1
    rw [hp] at e2
    cases e2
theorem Rl.newDic (R : Rl c F H σ ρ) {i : Nat} {p : Addr} {xs : List (NestedKey × Addr × V)} {kvs : List (PyData × PyData)} (hF : F p = none) (nT : p ∉ c.T) (h0 : c.H0 p = none) (aw : Away σ ρ p) (hk : DzKv c.K F xs kvs) : Rl c F (upd H p (DkO p xs)) (σ.set i (some (.ref p))) (ρ.set i (.dic kvs)) := by
  have nio : ∀ b ∈ c.io, b ≠ p := fun b hb z => (R.ioh b hb).1 (by rw [z]; exact h0)
  have far : ∀ (j : Nat) sl, (ρ.set i (.dic kvs))[j]? = some sl → (i = j ∧ sl = .dic kvs ∧ i < ρ.length) ∨ (i ≠ j ∧ ρ[j]? = some sl) := fun j sl e => by
    by_cases hj : i = j
    · subst hj
      by_cases hi : i < ρ.length
      · rw [List.getElem?_set_self hi] at e
        cases e
        exact .inl ⟨rfl, rfl, hi⟩
      · rw [List.getElem?_eq_none (by simpa using hi)] at e
        cases e
    · rw [List.getElem?_set_ne hj] at e
      exact .inr ⟨hj, e⟩
  refine ⟨by rw [List.length_set, List.length_set]; exact R.len, fun b x e => ?_, R.ft, fun P hP => ?_, R.mono, fun b x e h1 h2 => ?_, fun b hb => ?_, fun j sl e => ?_, fun j m b x y e1 e2 e3 e4 => ?_, fun j m x y e1 e2 => ?_, R.nw, R.tf, fun j m b x y e1 e2 e3 e4 => ?_⟩
  · rw [upd_ne (ne_of_none e hF)]
    exact R.sub _ _ e
  · obtain ⟨ps, e, t⟩ := R.tb P hP
    have nP : P ≠ p := fun z => nT (by rw [← z]; exact hP)
    exact ⟨ps, by rw [upd_ne nP]; exact e, t⟩
  · rw [upd_ne (ne_of_none e h0)]
    exact R.fr b x e h1 h2
  · obtain ⟨h1, h2, h3, ws, h4⟩ := R.ioh b hb
    exact ⟨h1, h2, h3, ws, by rw [upd_ne (nio b hb)]; exact h4⟩
  · rcases far j sl e with ⟨rfl, rfl, hi⟩ | ⟨hj, e⟩
    · exact ⟨p, xs, vAt_set (by rw [R.len]; exact hi), upd_same, hk, hF, nT, h0⟩
    · rw [vAt_ne hj]
      have old := R.sl j sl e
      cases sl with
      | un => trivial
      | fn n => exact old
      | dat d => exact old
      | own es =>
        obtain ⟨b, ws, x1, h1, h2, h3, h4⟩ := old
        have nb : b ≠ p := fun z => aw.1 j es e (by rw [x1, z])
        exact ⟨b, ws, x1, by rw [upd_ne nb]; exact h1, h2, h3, h4⟩
      | io es =>
        obtain ⟨b, ws, x0, x1, h1, h2, h3, h4⟩ := old
        exact ⟨b, ws, x0, x1, by rw [upd_ne (nio b (by rw [x0]; simp))]; exact h1, h2, h3, h4⟩
      | dic es =>
        obtain ⟨b, ws, x1, h1, h2, h3, h4⟩ := old
        have nb : b ≠ p := fun z => aw.2 j es e (by rw [x1, z])
        exact ⟨b, ws, x1, by rw [upd_ne nb]; exact h1, h2, h3, h4⟩
  · rcases far j _ e1 with ⟨_, h, _⟩ | ⟨hj, e1⟩
    · cases h
    · rcases far m _ e2 with ⟨_, h, _⟩ | ⟨hm, e2⟩
      · cases h
      · rw [vAt_ne hj] at e3
        rw [vAt_ne hm] at e4
        exact R.dj j m b x y e1 e2 e3 e4
  · rcases far j _ e1 with ⟨_, h, _⟩ | ⟨hj, e1⟩
    · cases h
    · rcases far m _ e2 with ⟨_, h, _⟩ | ⟨hm, e2⟩
      · cases h
      · exact R.iu j m x y e1 e2
  · rcases far j _ e1 with ⟨rfl, _, hi⟩ | ⟨hj, e1⟩
    · rcases far m _ e2 with ⟨rfl, _, _⟩ | ⟨hm, e2⟩
      · rfl
      · rw [vAt_set (by rw [R.len]; exact hi)] at e3
        cases e3
        rw [vAt_ne hm] at e4
        exact absurd e4 (aw.2 m y e2)
    · rcases far m _ e2 with ⟨rfl, _, hi⟩ | ⟨hm, e2⟩
      · rw [vAt_set (by rw [R.len]; exact hi)] at e4
        cases e4
        rw [vAt_ne hj] at e3
        exact absurd e3 (aw.2 j x e1)
      · rw [vAt_ne hj] at e3
        rw [vAt_ne hm] at e4
        exact R.dk j m b x y e1 e2 e3 e4
/-- a thing on the side, kept through an expression -/
theorem Rl.guardD {D : Addr} {o : HO} (R : Rl c F H σ ρ) (hD : H D = some o) (nF : F D = none) (nT : D ∉ c.T) (h0 : c.H0 D = none) (aw : Away σ ρ D) : Rl (c.re (upd c.H0 D o) c.F0 c.io) F H σ ρ := by
  have nio : D ∉ c.io := fun z => (R.ioh D z).1 h0
  refine ⟨R.len, R.sub, R.ft, R.tb, R.mono, fun b x e h1 h2 => ?_, fun a ha => ?_, fun i sl e => ?_, R.dj, R.iu, fun a h1 h2 => ?_, R.tf, R.dk⟩
  · by_cases hb : b = D
    · have e' : upd c.H0 D o b = some x := e
      rw [hb, upd_same] at e'
      rw [hb, hD]
      exact e'
    · have e' : upd c.H0 D o b = some x := e
      rw [upd_ne hb] at e'
      exact R.fr b x e' h1 h2
  · have na : a ≠ D := fun z => nio (by rw [← z]; exact ha)
    obtain ⟨h1, h2⟩ := R.ioh a ha
    refine ⟨?_, h2⟩
    show upd c.H0 D o a ≠ none
    rw [upd_ne na]
    exact h1
  · have q := R.sl i sl e
    cases sl with
    | un => trivial
    | fn n => exact q
    | dat d => exact q
    | own es =>
      obtain ⟨a, ws, e1, e2, e3, e4, e5, e6⟩ := q
      have na : a ≠ D := fun z => aw.1 i es e (by rw [e1, z])
      refine ⟨a, ws, e1, e2, e3, e4, e5, ?_⟩
      show upd c.H0 D o a = none
      rw [upd_ne na]
      exact e6
    | io es => exact q
    | dic es =>
      obtain ⟨a, ws, e1, e2, e3, e4, e5, e6⟩ := q
      have na : a ≠ D := fun z => aw.2 i es e (by rw [e1, z])
      refine ⟨a, ws, e1, e2, e3, e4, e5, ?_⟩
      show upd c.H0 D o a = none
      rw [upd_ne na]
      exact e6
  · by_cases ha : a = D
    · rw [ha]
      exact nF
    · refine R.nw a ?_ h2
      have h1' : upd c.H0 D o a ≠ none := h1
      rw [upd_ne ha] at h1'
      exact h1'
theorem Rl.unguardD {D : Addr} {o : HO} (R : Rl (c.re (upd c.H0 D o) c.F0 c.io) F H σ ρ) (h0 : c.H0 D = none) (nT : D ∉ c.T) (nio : D ∉ c.io) (f0 : c.F0 D = none) : Rl c F H σ ρ ∧ H D = some o ∧ F D = none ∧ Away σ ρ D := by
  obtain ⟨R1, a, b, d⟩ := Rl.unguard (c := c) (D := D) (o := o) R h0 nT nio f0
  refine ⟨R1, a, b, d, fun j es e z => ?_⟩
  obtain ⟨a, ws, e1, e2, e3, e4, e5, e6⟩ := R.sl j _ e
  rw [z] at e1
  cases e1
  have e6' : upd c.H0 D o D = none := e6
  rw [upd_same] at e6'
  cases e6'
end
section
variable {c : Co} {X : Cx} {e : Expr} {pos : Pos}
theorem Rl.notT {F H : Hp} {σ : L2.St} {ρ : Ev} (R : Rl c F H σ ρ) {p : Addr} (hp : H p = none) : p ∉ c.T := fun z => by
  obtain ⟨ps, q, _⟩ := R.tb p z
  rw [hp] at q
  cases q
def sNewK (i : Nat) : SS := fun ρ => some (.nx, ρ.set i (.dic []))
theorem es_newK (i : Nat) {st : Stmt} (h : ∀ {te : TE}, PE X (.Dict [] [] pos) te → PS X st (tAsg te (gName i))) : ES c X st (sNewK i) := by
  refine ⟨ps_imp (h pe_newK) fun D σ H ⟨F, ρ, fl, ρ', R, e, k⟩ => fun p hp => ?_⟩
  cases e
  exact k (σ.set i (some (.ref p))) _ F (Same.refl _) (R.newDic (R.sub.free hp) (R.notT hp) (R.h0_of_new hp) (R.away hp) .nil)
def sNew1 (i : Nat) (fk fv : SE) : SS := fun ρ => match fk ρ with
  | some (.d dk, ρ1) => match fv ρ1 with
    | some (.d d, ρ2) => match dkey dk with
      | some _ => some (.nx, ρ2.set i (.dic [(dk, d)]))
      | none => none
    | _ => none
  | _ => none
theorem pe_any {k : Expr} {f : SE} (h : ∀ H0 F0 io, EO (c.re H0 F0 io) X k f) : PE X k (fun σ H Q => ∃ H0 F0 io, rE (c.re H0 F0 io) f σ H Q) := ⟨fun pins s σ H Q I ⟨H0, F0, io, q⟩ => (h H0 F0 io).pe.run pins s σ H Q I q⟩
theorem es_new1 (i : Nat) {k v : Expr} {fk fv : SE} {st : Stmt} (hK : X.K = c.K) (hu : X.A.units + 20 < cLine) (h : ∀ {te : TE}, PE X (.Dict [some k] [v] pos) te → PS X st (tAsg te (gName i)))
    (hk : ∀ H0 F0 io, EO (c.re H0 F0 io) X k fk) (hv : ∀ H0 F0 io, EO (c.re H0 F0 io) X v fv) : ES c X st (sNew1 i fk fv) := by
  refine ⟨ps_imp (h (pe_new1 hu (pe_any hk) (pe_any hv))) fun D σ H ⟨F, ρ, fl, ρ', R, e, kk⟩ => fun p hp => ?_⟩
  unfold sNew1 at e
  cases e1 : fk ρ with
  | none => rw [e1] at e; cases e
  | some q1 =>
    obtain ⟨x, ρ1⟩ := q1
    rw [e1] at e
    cases x with
    | s i => cases e
    | d dk =>
      dsimp only at e
      cases e2 : fv ρ1 with
      | none => rw [e2] at e; cases e
      | some q2 =>
        obtain ⟨y, ρ2⟩ := q2
        rw [e2] at e
        cases y with
        | s i => cases e
        | d d =>
          dsimp only at e
          cases e3 : dkey dk with
          | none => rw [e3] at e; cases e
          | some kd =>
            rw [e3] at e
            cases e
            have nF := R.sub.free hp
            have R0 := (R.xt (Xt.raw (o := DkO p []) R.sub hp)).guardD (D := p) (o := DkO p []) upd_same nF (R.notT hp) (R.h0_of_new hp) (R.away hp)
            have nio : p ∉ c.io := fun z => (R.ioh p z).1 (R.h0_of_new hp)
            have f0 : c.F0 p = none := by
              cases q : c.F0 p with
              | none => rfl
              | some o =>
                have := R.mono p o q
                rw [nF] at this
                cases this
            refine ⟨_, c.F0, c.io, F, ρ, _, ρ1, R0, e1, fun yv H1 F1 s1 R1 o1 => ⟨_, c.F0, c.io, F1, ρ1, _, ρ2, R1, e2, fun vv H2 F2 s2 R2 o2 => ?_⟩⟩
            obtain ⟨R3, hp2, nF2, aw2⟩ := Rl.unguardD (c := c) R2 (R.h0_of_new hp) (R.notT hp) nio f0
            have o1' : Dz c.K F2 yv dk := dp_same s2 o1
            obtain ⟨b, rfl⟩ := key_ref o1' e3
            refine ⟨hp2, dk, kd, b, rfl, ?_, e3, kk _ _ F2 (s1.trans s2) (R3.newDic nF2 (R.notT hp) (R.h0_of_new hp) aw2 (.cons (dkey_use e3).1 o1' o2 .nil))⟩
            rw [hK]
            exact dp_same R3.sub o1'
end
end PD

/-! Plain data: defs that are handed defs -/
namespace PD
open PySem PySem.Spec PyProof.Rows L2 GxR LG
/-- the promise of a def on data whose last arguments are the defs at fs -/
def spF (K : PySem.W.Frag) (T fs : List Addr) (f : List PyData → Option PyData) : Sp := fun vs H Q E => ∃ vs0, vs = vs0 ++ fs.map V.ref ∧ spP K T f vs0 H Q E
def startF (n m : Nat) (ds : List PyData) : Ev := ds.map Sl.dat ++ ((List.range m).map Sl.fn ++ List.replicate (n - ds.length - m) Sl.un)
def bodyF (g : SS) (n m : Nat) (ds : List PyData) : Option PyData := match g (startF n m ds) with
  | some (.rt d, _) => some d
  | some (.nx, _) => some .none
  | _ => none
section
variable {K : PySem.W.Frag} {T : List Addr} {F H : Hp}
theorem startF_cases {n m : Nat} {ds : List PyData} {i : Nat} {sl : Sl} (h : (startF n m ds)[i]? = some sl) : (∃ d, ds[i]? = some d ∧ sl = .dat d) ∨ (∃ j, i = ds.length + j ∧ j < m ∧ sl = .fn j) ∨ sl = .un := by
  unfold startF at h
  by_cases hi : i < ds.length
  · rw [List.getElem?_append_left (by rw [List.length_map]; exact hi), List.getElem?_map, List.getElem?_eq_getElem hi] at h
    cases h
    exact .inl ⟨_, List.getElem?_eq_getElem hi, rfl⟩
  · rw [List.getElem?_append_right (by rw [List.length_map]; omega), List.length_map] at h
    by_cases hj : i - ds.length < m
    · rw [List.getElem?_append_left (by rw [List.length_map, List.length_range]; exact hj), List.getElem?_map, List.getElem?_range hj] at h
      cases h
      exact .inr (.inl ⟨i - ds.length, by omega, hj, rfl⟩)
    · rw [List.getElem?_append_right (by rw [List.length_map, List.length_range]; omega)] at h
      obtain ⟨_, e⟩ := List.getElem?_eq_some_iff.mp h
      rw [List.getElem_replicate] at e
      exact .inr (.inr e.symm)
theorem rl_startF {N : List Str} {vs : List V} {ds : List PyData} {fs : List Addr} (hd : DzAll K F vs ds) (hn : ds.length + fs.length ≤ N.length) (s : Same F H) (t : ∀ P ∈ T, F P = none ∧ TabG H P) (tf : TF K F) :
    Rl ⟨K, T, H, F, [], fs⟩ F H (L2.start N (vs ++ fs.map V.ref)) (startF N.length fs.length ds) := by
  have hl := dpAll_len hd
  refine ⟨?_, s, fun P hP => (t P hP).1, fun P hP => (t P hP).2, Same.refl _, fun b o e _ _ => e, fun a ha => (by cases ha), fun i sl e => ?_, fun i j a x y e1 => ?_, fun i j x y e1 => ?_, fun a _ h => h, tf, fun i j a x y e1 => ?_⟩
  · unfold L2.start startF
    simp only [List.length_append, List.length_map, List.length_replicate, List.length_range]
    omega
  · rcases startF_cases e with ⟨d, e1, rfl⟩ | ⟨j, rfl, hj, rfl⟩ | rfl
    · obtain ⟨v, e2, dv⟩ := dpAll_at hd e1
      obtain ⟨hi, e3⟩ := List.getElem?_eq_some_iff.mp e2
      refine ⟨v, ?_, dv⟩
      rw [vAt_start (by rw [List.length_append]; omega), List.getElem_append_left hi, e3]
    · refine ⟨fs[j], List.getElem?_eq_getElem hj, ?_⟩
      rw [vAt_start (by rw [List.length_append, List.length_map]; omega), List.getElem_append_right (by omega), List.getElem_map]
      congr 3
      omega
    · trivial
  · rcases startF_cases e1 with ⟨d, _, h⟩ | ⟨_, _, _, h⟩ | h <;> cases h
  · rcases startF_cases e1 with ⟨d, _, h⟩ | ⟨_, _, _, h⟩ | h <;> cases h
  · rcases startF_cases e1 with ⟨d, _, h⟩ | ⟨_, _, _, h⟩ | h <;> cases h
theorem fn_pureF {P : Program} {w : World} {mg : Str → Option Value} {base : Heap} {x qual : Str} {st : Stmt} {f : Addr} {fd : FuncData} {N ps : List Str} {k : Nat} {fs : List Addr} (Fu : Fun K x qual st f fd) (S : FnScope N ps (defScope st)) (g : SS) (hnp : ps.length ≤ N.length)
    (hb : ∀ (cdv : Value) (A : Around) (outer : List Env) (s : Shared) (H : Hp) (E : XK) (H0 F0 : Hp) (io : List Addr), Room k (A.deeper (envOfC qual (defScope st) s.heap.objs.size f cdv)) →
      ESs ⟨K, T, H0, F0, io, fs⟩ (cxOf CX0 P w K mg base N qual (defScope st) f cdv A outer s H E).nox (defBody st) g) :
    FnOk P w K mg base CX0 (k + 1) f fd ps (spF K T fs (fun ds => if ds.length + fs.length = ps.length then bodyF g N.length fs.length ds else none)) := by
  refine Fu.ok S (fun vs H Q E h => ?_) (fun cdv A outer s H vs Q E hr h => ?_)
  · obtain ⟨vs0, rfl, F, ds, d, hd, _, _, _, e, _⟩ := h
    dsimp only at e
    split at e
    · rename_i hl
      rw [List.length_append, List.length_map, dpAll_len hd, hl]
    · cases e
  · obtain ⟨vs0, rfl, F, ds, d, hd, sF, t, tf, e, q⟩ := h
    dsimp only at e
    split at e
    · rename_i hl
      have es := hb cdv A outer s H E H F [] hr
      refine ⟨_, es.pss, ?_⟩
      have R := rl_startF (N := N) (fs := fs) hd (by rw [hl]; exact hnp) sF t tf
      unfold bodyF at e
      cases e1 : g (startF N.length fs.length ds) with
      | none => rw [e1] at e; cases e
      | some p =>
        obtain ⟨fl, ρ'⟩ := p
        rw [e1] at e
        refine ⟨F, _, fl, ρ', R, e1, fun σ' H' F' s' R' => ?_⟩
        have fin : ∀ v, Dz K F' v d → Q v H' := fun v dv => q v H' F' s' R'.sub (fun P hP => ⟨R'.ft P hP, R'.tb P hP⟩) (fun b o e1 e2 => R'.fr b o e1 e2 (by simp)) R'.nw R'.tf dv
        cases fl with
        | rt d' =>
          cases e
          exact fun v dv => fin v dv
        | nx =>
          cases e
          exact fin .non .non
        | bk => cases e
        | ct => cases e
    · cases e
end
section
variable {c : Co} {X : Cx} {a b : Expr} {es : List Expr} {pos : Pos}
/-- a call of the def in a slot -/
def sCallV (i n : Nat) (f : List PyData → Option PyData) (fa : SA) : SE := fun ρ => match ρ[i]? with
  | some (.fn m) => if m = n then sCall f [] fa ρ else none
  | _ => none
theorem eo_callV (i n : Nat) {r : Addr} {f : List PyData → Option PyData} {fa : SA} {ce : Expr} {E : XK} (hfv : c.fv[n]? = some r) (h : ∀ {t : TA}, PA X es t → PE X ce (tCallL i r (spP c.K c.T f) [] E t)) (ha : EA c X es fa) : EO c X ce (sCallV i n f fa) := by
  refine ⟨pe_imp (h ha.pa) fun σ H Q ⟨F, ρ, x, ρ', R, e, k⟩ => ?_⟩
  unfold sCallV at e
  split at e
  · rename_i m q
    split at e
    · rename_i hm
      subst hm
      obtain ⟨r', e1, e2⟩ := R.sl i _ q
      rw [hfv] at e1
      cases e1
      refine ⟨vAt_eq e2, ?_⟩
      unfold sCall at e
      cases e1 : fa ρ with
      | none => rw [e1] at e; cases e
      | some p =>
        obtain ⟨xs, ρ1⟩ := p
        rw [e1] at e
        dsimp only at e
        cases e2 : allD xs with
        | none => rw [e2] at e; cases e
        | some ds =>
          rw [e2] at e
          dsimp only at e
          cases e3 : f (ds ++ []) with
          | none => rw [e3] at e; cases e
          | some d =>
            rw [e3] at e
            cases e
            refine ⟨F, ρ, xs, _, R, e1, fun vs H1 F1 s1 R1 o1 => ?_⟩
            exact ⟨F1, ds ++ [], d, dpAll_app (allD_ok o1 e2) .nil, R1.sub, fun P hP => ⟨R1.ft P hP, R1.tb P hP⟩, R1.tf, e3, fun v H' F' f1 s2 t h1 n tf dv => k v H' F' (s1.trans f1) (R1.call f1 s2 t h1 n tf) dv⟩
    · cases e
  · cases e
/-- f(a, g), g a def -/
theorem eo_callF1 {f : List PyData → Option PyData} {r : Addr} {fa : SE} {ce : Expr} {E : XK} (h : ∀ {t : TA}, PA X [a, b] t → PE X ce (tCall (spF c.K c.T [r] f) [] E t)) (ha : EO c X a fa) (hb : PE X b (tC (.ref r)))
    (h1 : starEach [a, b] X.env = (false, eval a X.env) :: starEach [b] X.env := by rfl) (h2 : starEach [b] X.env = (false, eval b X.env) :: starEach [] X.env := by rfl) : EO c X ce (sCall f [] (sCons fa sNil)) := by
  refine ⟨pe_imp (h (pa_cons (hs := h1) ha.pe (pa_cons (hs := h2) hb pa_nil))) fun σ H Q ⟨F, ρ, x, ρ', R, e, k⟩ => ?_⟩
  unfold sCall sCons sNil at e
  cases e1 : fa ρ with
  | none => rw [e1] at e; cases e
  | some p =>
    obtain ⟨y, ρ1⟩ := p
    rw [e1] at e
    cases y with
    | s i => cases e
    | d d0 =>
      dsimp only [allD] at e
      cases e3 : f [d0] with
      | none =>
        simp [e3] at e
      | some d =>
        simp only [Option.map_some, List.append_nil, e3, Option.some.injEq, Prod.mk.injEq] at e
        obtain ⟨rfl, rfl⟩ := e
        refine ⟨F, ρ, _, _, R, e1, fun v H1 F1 s1 R1 o1 => ?_⟩
        show spF c.K c.T [r] f ([v, .ref r] ++ []) H1 Q E
        exact ⟨[v], rfl, F1, [d0], d, .cons o1 .nil, R1.sub, fun P hP => ⟨R1.ft P hP, R1.tb P hP⟩, R1.tf, e3, fun v H' F' f1 s2 t h1 n tf dv => k v H' F' (s1.trans f1) (R1.call f1 s2 t h1 n tf) dv⟩
end
end PD

/-! Plain data: len(d) -/
namespace PD
open PySem PySem.Spec PyProof.Rows L2 GxR LG
section
variable {X : Cx} {K : PySem.W.Frag}
theorem hu20 {A : Around} {k : Nat} (hr : Room k A) : A.units + 20 < cLine := by have := hr.un; omega
def rLenK (K : PySem.W.Frag) : List V → Hp → VK → Prop := fun vs H Q => ∃ a xs kvs, vs = [V.ref a] ∧ H a = some (DkO a xs) ∧ DzKv K H xs kvs ∧ Q (.int (kvs.length : Nat)) H
theorem call_lenK : CallR X (.builtin "len") (rLenK X.K) := by
  intro pins s σ H vs us Q I rv h
  obtain ⟨a, xs, kvs, rfl, hH, hk, q⟩ := h
  obtain ⟨u, rfl, ru⟩ := rv.one
  cases (show u = Value.ref a from ru)
  obtain ⟨hd, hz, _, _, us, rel, dd⟩ := dct_at I hH hk
  have e1 := DeR.len rel
  have e2 := kv_len hk
  have z := sizeLine_eq
  refine call_len_slot (n := (kvs.length : Nat)) dd.typeIs PySem.F.slot_dict_len (fun Q' hq => len_keyed (knd := nestedKind X.prog X.w) (kvs := pairsH us) hd ⟨us, dd, rfl⟩ ?_) (by omega) (by omega) ⟨.int (kvs.length : Nat), H, I.tok _, ⟨_, rfl⟩, q⟩
  rw [pairsH_length, ← e1, e2]
  exact hq
def fLenK : List PyData → Option PyData
  | [.dict kvs] => some (.int kvs.length)
  | _ => none
theorem ln_lenK : LNok K (rLenK K) fLenK := by
  intro F H vs ds z Q s hv hf k
  unfold fLenK at hf
  split at hf
  · cases hf
    obtain ⟨v, rfl, h⟩ := vw1 hv
    obtain ⟨a, xs, rfl, h1, h2⟩ := h.dict s
    exact ⟨a, xs, _, rfl, h1, dpKv_same s h2, k _ F H (Xt.refl s) (.int _)⟩
  · cases hf
end
end PD

/-! Plain data: max(d.values()) of ints -/
namespace PD
open PySem PySem.Spec PyProof.Rows L2 GxR LG
section
variable {X : Cx} {K : PySem.W.Frag} {c : Co}
theorem kv_ints {H : Hp} : ∀ {xs : List (NestedKey × Addr × V)} {us : List (NestedKey × Addr × Value)} {kvs : List (PyData × PyData)} {is : List Int}, Paired DeR xs us → DzKv K H xs kvs → kvs.map (·.2) = is.map PyData.int →
    ∀ (i : Nat) (y : NestedKey × Addr × Value), us[i]? = some y → ∃ t, y.2.2 = Value.int (is.getD i 0) t
  | _, _, _, _, .nil, _, _, i, y, h => by simp at h
  | (kk, ak, vk) :: xs, u :: us, (dk, d) :: kvs, is, .cons r t, .cons e1 h1 h2 hs, e, i, y, h => by
    cases is with
    | nil => cases e
    | cons j is =>
      rw [List.map_cons, List.map_cons] at e
      injection e with e0 e'
      have e0' : d = .int j := e0
      subst e0'
      cases i with
      | zero =>
        have : u = y := Option.some.inj h
        subst this
        obtain ⟨r1, r2, r3⟩ := r
        cases h2
        exact r3
      | succ i =>
        exact kv_ints t hs e' i y h
def mxI (is : List Int) : Int := is.tail.foldl max (is.headD 0)
def tMaxV (K : PySem.W.Frag) (td : TE) : TE := fun σ H Q => td σ H fun x H1 => ∃ a xs kvs is, x = V.ref a ∧ H1 a = some (DkO a xs) ∧ DzKv K H1 xs kvs ∧ kvs.map (·.2) = is.map PyData.int ∧ is ≠ [] ∧ Q (.int (mxI is)) H1
variable {o : Expr} {p pos apos mpos : Pos} {td : TE}
theorem pe_maxV (hc : X.calm = true) (hg : Gl X "max") (hm : X.mg "max" = none) (hd : PE X o td) (hbase : attributeBase o "values" X.env (eval o X.env) = eval o X.env := by rfl) (hline : (apos.endLine == mpos.line) = true := by rfl)
    (hse : starEach [Expr.Call (.Attribute o "values" apos) [] [] mpos] X.env = [(false, eval (Expr.Call (.Attribute o "values" apos) [] [] mpos) X.env)] := by rfl) :
    PE X (.Call (.Name "max" p) [.Call (.Attribute o "values" apos) [] [] mpos] [] pos) (tMaxV X.K td) := by
  refine ⟨fun pins s σ H Q I h => ?_⟩
  refine wpAny_Call_Name_kw (ld_blt I hg hm (u := .builtin "max") (by first | rfl | decide +kernel) ?_ (by first | decide +kernel | decide) (by first | decide +kernel | decide))
  rw [hse]
  refine PySem.callWith_builtin1 (wpAny_Call_method0_late hbase hline (thn (hd.run pins s σ H _ I h) fun v s1 ⟨x, H1, I1, r1, a, xs, kvs, is, ex, ha, hk, hv, hne, q⟩ => ?_))
  subst ex
  obtain rfl : v = Value.ref a := r1
  obtain ⟨hsys, hz, _, _, us, rel, dof⟩ := dct_at I1 ha hk
  obtain ⟨es, ep, raw, esz, ent⟩ := dof.raw
  have raw' := raw
  obtain ⟨ob, ho, ex, hdat⟩ := raw'
  have klen := kv_len hk
  have ulen := DeR.len rel
  refine ⟨"dict", "dict.values", F.plainAttrs_dict, F.slot_dict_values, F.type_dict_values, ⟨ob, ho, ex.1⟩, fun b e => ?_, Calls.callWith_builtin rfl (PySem.evalArgs_none ?_)⟩
  · cases e
    exact ⟨ob, ho, ex.2.1⟩
  refine call_meetsIn F.slot_dict_values ⟨ob, ho, ex.1⟩ F.entry_dict_values (F.args_dict_values_1 _) (meets_dict_values_raw a hsys) ⟨⟨es, ep, raw⟩, ?_⟩
  have k1 : ∀ b u, s1.heap.get? b = some u → (s1.heap.push { cls := .type "dict_values", data := .fields #[.ref a] }).get? b = some u := fun b u e => Heap.get?_push_of_some _ e
  have raw1 : (s1.heap.push { cls := .type "dict_values", data := .fields #[.ref a] }).DictRaw a es ep := raw.at fun b e => k1 a b e
  have hlen : is.length = es.size := by
    have e1 := congrArg List.length hv
    rw [List.length_map, List.length_map] at e1
    omega
  have hpos : 0 < es.size := by
    rw [← hlen]
    exact List.length_pos_iff.mpr hne
  have hval : ∀ (i : Nat) (v : Value), (∃ y, us[i]? = some y ∧ v = y.2.2) → ∃ t, v = Value.int (is.getD i 0) t := fun i v ⟨y, hy, e⟩ => by
    rw [e]
    exact kv_ints rel hk hv i y hy
  refine call_max_walk (wpAny_pyIter_values_raw (v := s1.heap.objs.size) (d := a) ⟨_, Heap.get?_push_size _ rfl, rfl, rfl⟩ raw1 ?_)
  have hlt : a < s1.heap.objs.size := Heap.lt_size ho
  have hsz : (s1.heap.push { cls := .type "dict_values", data := .fields #[.ref a] }).objs.size = s1.heap.objs.size + 1 := Heap.size_push _ _
  refine ⟨_, _, _, _, _, _, _, rfl, Walks.valuesH (xs := us) (A := X.A.in1) (I.ok.hd hc) (s1.heap.push { cls := .type "dict_values", data := .fields #[.ref a] }).objs.size a (by rw [hsz]; exact Nat.ne_of_lt (Nat.lt_succ_of_lt hlt)) es ep (fun i hi => let ⟨y, h1, h2, h3, _⟩ := ent i hi; ⟨y, h1, h2, h3⟩),
    ⟨⟨_, Heap.get?_push_size _ rfl, rfl, rfl⟩, raw1.at fun b e => Heap.get?_push_of_some _ e⟩, fun b hb => ?_, hpos, CmpOf.ints_gt (fun i => is.getD i 0) hval, fun v h' tk hP hk' => ?_⟩
  · show b < ((s1.heap.push _).push _).objs.size
    rw [Heap.size_push, Heap.size_push]
    rw [hsz] at hb
    rcases List.mem_cons.mp hb with e | hb
    · rw [e]
      exact Nat.lt_succ_self _
    · have e : b = a := List.mem_singleton.mp hb
      rw [e]
      exact Nat.lt_succ_of_lt (Nat.lt_succ_of_lt hlt)
  · obtain ⟨t, rfl⟩ := hval _ v hP
    obtain ⟨b1, b2⟩ := argBest_gt (fun i => is.getD i 0) (es.size - 1)
    have hb : argBest (fun i j => decide (is.getD i 0 > is.getD j 0)) (es.size - 1) < is.length := by omega
    have em : is.getD (argBest (fun i j => decide (is.getD i 0 > is.getD j 0)) (es.size - 1)) 0 = mxI is := by
      refine PySem.W.Mm.greatest ?_ fun j hj => ?_
      · rw [List.getD_eq_getElem?_getD, List.getElem?_eq_getElem hb]
        exact List.getElem_mem hb
      · obtain ⟨i, hi, e⟩ := List.mem_iff_getElem.mp hj
        have e2 : is.getD i 0 = j := by rw [List.getD_eq_getElem?_getD, List.getElem?_eq_getElem hi, ← e] <;> rfl
        rw [← e2]
        exact b2 i (by omega)
    refine ⟨.int (mxI is), H1, I1.kept (t' := tk) fun b u e => hk' b u (fun hmem => ?_) (Heap.get?_push_of_some _ (k1 b u e)), ⟨t, by rw [← em]⟩, q⟩
    have e1 : b = (s1.heap.push { cls := .type "dict_values", data := .fields #[.ref a] }).objs.size := List.mem_singleton.mp hmem
    have e2 := Heap.lt_size e
    rw [hsz] at e1
    rw [e1] at e2
    exact absurd e2 (Nat.not_lt.mpr (Nat.le_succ _))
def fMaxV : PyData → Option PyData
  | .dict kvs => match intsOf (kvs.map (·.2)) with
    | some (i :: is) => some (.int (mxI (i :: is)))
    | _ => none
  | _ => none
def sMaxV (fa : SE) : SE := fun ρ => match fa ρ with
  | none => none
  | some (x, ρ1) => match res ρ1 x with
    | none => none
    | some d => (fMaxV d).map fun z => (.d z, ρ1)
theorem eo_maxV {a ce : Expr} {fa : SE} (hK : X.K = c.K) (h : ∀ {te : TE}, PE X a te → PE X ce (tMaxV X.K te)) (ha : EO c X a fa) : EO c X ce (sMaxV fa) := by
  refine ⟨pe_imp (h ha.pe) fun σ H Q ⟨F, ρ, x, ρ', R, e, k⟩ => ?_⟩
  unfold sMaxV at e
  cases e1 : fa ρ with
  | none => rw [e1] at e; cases e
  | some p =>
    obtain ⟨y, ρ1⟩ := p
    rw [e1] at e
    dsimp only at e
    cases e4 : res ρ1 y with
    | none => rw [e4] at e; cases e
    | some d =>
      rw [e4] at e
      obtain ⟨z, e5, e6⟩ := Option.map_eq_some_iff.mp e
      cases e6
      refine ⟨F, ρ, y, _, R, e1, fun v H1 F1 s1 R1 o1 => ?_⟩
      have vw := R1.vw o1 e4
      unfold fMaxV at e5
      split at e5
      · rename_i kvs
        split at e5
        · rename_i i is hi
          cases e5
          obtain ⟨ad, xs, rfl, hd, hk⟩ := vw.dict R1.sub
          rw [hK]
          exact ⟨ad, xs, kvs, i :: is, rfl, hd, dpKv_same R1.sub hk, intsOf_eq hi, List.cons_ne_nil _ _, k _ H1 F1 s1 R1 (.int _)⟩
        · cases e5
      · cases e5
end
end PD

/-! Plain data: what the readings of comprehensions and loops come to -/
namespace PD
open PySem

theorem compL_eq {g : SG} {t : STe} {f : SE} {vs : List Nat} {W : Ev} (b : PyData → Bool) (y : PyData → PyData) : ∀ (items acc : List PyData) (ρ : Ev), wipeE ρ vs = W → acc.length + items.length ≤ 1000000 →
    (∀ d ∈ items, ∃ ρ3, g d W = some ρ3 ∧ wipeE ρ3 vs = W ∧ t ρ3 = some (b d, ρ3) ∧ (b d = true → f ρ3 = some (.d (y d), ρ3))) → ∃ ρ2, compL g t f vs items acc ρ = some (acc ++ (items.filter b).map y, ρ2) ∧ wipeE ρ2 vs = W
  | [], acc, ρ, hw, _, _ => ⟨ρ, by simp [compL], hw⟩
  | d :: ds, acc, ρ, hw, hn, h => by
    obtain ⟨ρ3, h1, h2, h3, h4⟩ := h d (by simp)
    unfold compL
    rw [hw, h1]
    dsimp only
    rw [h3]
    cases hb : b d with
    | false =>
      dsimp only
      obtain ⟨ρ2, e1, e2⟩ := compL_eq b y ds acc ρ3 h2 (by simp at hn; omega) (fun d' hd => h d' (by simp [hd]))
      exact ⟨ρ2, by rw [e1, List.filter_cons_of_neg (by simp [hb])], e2⟩
    | true =>
      dsimp only
      rw [h4 hb]
      dsimp only
      obtain ⟨ρ2, e1, e2⟩ := compL_eq b y ds (acc ++ [y d]) ρ3 h2 (by simp at hn ⊢; omega) (fun d' hd => h d' (by simp [hd]))
      refine ⟨ρ2, ?_, e2⟩
      rw [if_pos (by simp at hn; omega), e1, List.filter_cons_of_pos hb]
      simp
theorem compL_on {α : Type} {g : SG} {t : STe} {f : SE} {vs : List Nat} {W : Ev} (F G : α → PyData) (b : α → Bool) : ∀ (xs : List α) (acc : List PyData) (ρ : Ev), wipeE ρ vs = W → acc.length + xs.length ≤ 1000000 →
    (∀ x ∈ xs, ∃ ρ3, g (F x) W = some ρ3 ∧ wipeE ρ3 vs = W ∧ t ρ3 = some (b x, ρ3) ∧ (b x = true → f ρ3 = some (.d (G x), ρ3))) → ∃ ρ2, compL g t f vs (xs.map F) acc ρ = some (acc ++ (xs.filter b).map G, ρ2) ∧ wipeE ρ2 vs = W
  | [], acc, ρ, hw, _, _ => ⟨ρ, by simp [compL], hw⟩
  | d :: ds, acc, ρ, hw, hn, h => by
    obtain ⟨ρ3, h1, h2, h3, h4⟩ := h d (by simp)
    rw [List.map_cons]
    unfold compL
    rw [hw, h1]
    dsimp only
    rw [h3]
    cases hb : b d with
    | false =>
      dsimp only
      obtain ⟨ρ2, e1, e2⟩ := compL_on F G b ds acc ρ3 h2 (by simp at hn; omega) (fun d' hd => h d' (by simp [hd]))
      exact ⟨ρ2, by rw [e1, List.filter_cons_of_neg (by simp [hb])], e2⟩
    | true =>
      dsimp only
      rw [h4 hb]
      dsimp only
      obtain ⟨ρ2, e1, e2⟩ := compL_on F G b ds (acc ++ [G d]) ρ3 h2 (by simp at hn ⊢; omega) (fun d' hd => h d' (by simp [hd]))
      refine ⟨ρ2, ?_, e2⟩
      rw [if_pos (by simp at hn; omega), e1, List.filter_cons_of_pos hb]
      simp
theorem sComp_on {α : Type} {fi : SI} {g : SG} {t : STe} {f : SE} {vs : List Nat} {ρ ρ1 : Ev} (xs : List α) (F G : α → PyData) (b : α → Bool) (hi : fi ρ = some (xs.map F, ρ1)) (hw : okWipe ρ1 vs = true) (hn : xs.length ≤ 1000000) (hr : restore (wipeE ρ1 vs) ρ1 vs = ρ1)
    (h : ∀ x ∈ xs, ∃ ρ3, g (F x) (wipeE ρ1 vs) = some ρ3 ∧ wipeE ρ3 vs = wipeE ρ1 vs ∧ t ρ3 = some (b x, ρ3) ∧ (b x = true → f ρ3 = some (.d (G x), ρ3))) : sComp fi g t f vs ρ = some ((xs.filter b).map G, ρ1) := by
  unfold sComp
  rw [hi]
  dsimp only
  rw [if_pos hw]
  obtain ⟨ρ2, e1, e2⟩ := compL_on (vs := vs) F G b xs [] ρ1 rfl (by simpa using hn) h
  rw [e1]
  dsimp only
  rw [e2, hr]
  simp
/-- .. that takes all -/
theorem sComp_all {α : Type} {fi : SI} {g : SG} {f : SE} {vs : List Nat} {ρ ρ1 : Ev} (xs : List α) (F G : α → PyData) (hi : fi ρ = some (xs.map F, ρ1)) (hw : okWipe ρ1 vs = true) (hn : xs.length ≤ 1000000) (hr : restore (wipeE ρ1 vs) ρ1 vs = ρ1)
    (h : ∀ x ∈ xs, ∃ ρ3, g (F x) (wipeE ρ1 vs) = some ρ3 ∧ wipeE ρ3 vs = wipeE ρ1 vs ∧ f ρ3 = some (.d (G x), ρ3)) : sComp fi g tYes' f vs ρ = some (xs.map G, ρ1) := by
  have e := sComp_on (t := tYes') (f := f) xs F G (fun _ => true) hi hw hn hr fun x hx => let ⟨ρ3, h1, h2, h3⟩ := h x hx; ⟨ρ3, h1, h2, rfl, fun _ => h3⟩
  rw [e, show xs.filter (fun _ => true) = xs from by induction xs <;> simp_all]
theorem allL_on {α : Type} {g : SG} {f : SE} {vs : List Nat} {W : Ev} (F : α → PyData) (b : α → Bool) : ∀ (xs : List α) (ρ : Ev), wipeE ρ vs = W →
    (∀ d ∈ xs, ∃ ρ3, g (F d) W = some ρ3 ∧ wipeE ρ3 vs = W ∧ f ρ3 = some (.d (.bool (b d)), ρ3)) → ∃ ρ2, allL g f vs (xs.map F) ρ = some (xs.all b, ρ2) ∧ wipeE ρ2 vs = W
  | [], ρ, hw, _ => ⟨ρ, rfl, hw⟩
  | d :: ds, ρ, hw, h => by
    obtain ⟨ρ3, h1, h2, h3⟩ := h d (by simp)
    rw [List.map_cons]
    unfold allL
    rw [hw, h1]
    dsimp only
    rw [h3]
    cases hb : b d with
    | false => exact ⟨ρ3, by simp [hb], h2⟩
    | true =>
      dsimp only
      obtain ⟨ρ2, e1, e2⟩ := allL_on F b ds ρ3 h2 (fun d' hd => h d' (by simp [hd]))
      exact ⟨ρ2, by rw [e1]; simp [hb], e2⟩
theorem sAll_on {α : Type} {fi : SI} {g : SG} {f : SE} {vs : List Nat} {ρ ρ1 : Ev} (xs : List α) (F : α → PyData) (b : α → Bool) (hi : fi ρ = some (xs.map F, ρ1)) (hw : okWipe ρ1 vs = true) (hr : restore (wipeE ρ1 vs) ρ1 vs = ρ1)
    (h : ∀ d ∈ xs, ∃ ρ3, g (F d) (wipeE ρ1 vs) = some ρ3 ∧ wipeE ρ3 vs = wipeE ρ1 vs ∧ f ρ3 = some (.d (.bool (b d)), ρ3)) : sAll fi g f vs ρ = some (.d (.bool (xs.all b)), ρ1) := by
  unfold sAll
  rw [hi]
  dsimp only
  rw [if_pos hw]
  obtain ⟨ρ2, e1, e2⟩ := allL_on (vs := vs) F b xs ρ1 rfl h
  rw [e1]
  dsimp only
  rw [e2, hr]
theorem sComp_eq {fi : SI} {g : SG} {t : STe} {f : SE} {vs : List Nat} {ρ ρ1 : Ev} {items : List PyData} (hi : fi ρ = some (items, ρ1)) (hw : okWipe ρ1 vs = true) (hn : items.length ≤ 1000000) (hr : restore (wipeE ρ1 vs) ρ1 vs = ρ1) (b : PyData → Bool) (y : PyData → PyData)
    (h : ∀ d ∈ items, ∃ ρ3, g d (wipeE ρ1 vs) = some ρ3 ∧ wipeE ρ3 vs = wipeE ρ1 vs ∧ t ρ3 = some (b d, ρ3) ∧ (b d = true → f ρ3 = some (.d (y d), ρ3))) : sComp fi g t f vs ρ = some ((items.filter b).map y, ρ1) := by
  unfold sComp
  rw [hi]
  dsimp only
  rw [if_pos hw]
  obtain ⟨ρ2, e1, e2⟩ := compL_eq (vs := vs) b y items [] ρ1 rfl (by simpa using hn) h
  rw [e1]
  dsimp only
  rw [e2, hr]
  simp
theorem allL_eq {g : SG} {f : SE} {vs : List Nat} {W : Ev} (b : PyData → Bool) : ∀ (items : List PyData) (ρ : Ev), wipeE ρ vs = W →
    (∀ d ∈ items, ∃ ρ3, g d W = some ρ3 ∧ wipeE ρ3 vs = W ∧ f ρ3 = some (.d (.bool (b d)), ρ3)) → ∃ ρ2, allL g f vs items ρ = some (items.all b, ρ2) ∧ wipeE ρ2 vs = W
  | [], ρ, hw, _ => ⟨ρ, rfl, hw⟩
  | d :: ds, ρ, hw, h => by
    obtain ⟨ρ3, h1, h2, h3⟩ := h d (by simp)
    unfold allL
    rw [hw, h1]
    dsimp only
    rw [h3]
    cases hb : b d with
    | false => exact ⟨ρ3, by simp [hb], h2⟩
    | true =>
      dsimp only
      obtain ⟨ρ2, e1, e2⟩ := allL_eq b ds ρ3 h2 (fun d' hd => h d' (by simp [hd]))
      exact ⟨ρ2, by rw [e1]; simp [hb], e2⟩
theorem sAll_eq {fi : SI} {g : SG} {f : SE} {vs : List Nat} {ρ ρ1 : Ev} {items : List PyData} (hi : fi ρ = some (items, ρ1)) (hw : okWipe ρ1 vs = true) (hr : restore (wipeE ρ1 vs) ρ1 vs = ρ1) (b : PyData → Bool)
    (h : ∀ d ∈ items, ∃ ρ3, g d (wipeE ρ1 vs) = some ρ3 ∧ wipeE ρ3 vs = wipeE ρ1 vs ∧ f ρ3 = some (.d (.bool (b d)), ρ3)) : sAll fi g f vs ρ = some (.d (.bool (items.all b)), ρ1) := by
  unfold sAll
  rw [hi]
  dsimp only
  rw [if_pos hw]
  obtain ⟨ρ2, e1, e2⟩ := allL_eq (vs := vs) b items ρ1 rfl h
  rw [e1]
  dsimp only
  rw [e2, hr]
theorem loopS_inv {g : SG} {b : SS} (I : Nat → Ev → Prop) (items : List PyData) (h : ∀ i d ρ, items[i]? = some d → I i ρ → ∃ ρ1 fl ρ2, g d ρ = some ρ1 ∧ b ρ1 = some (fl, ρ2) ∧ (fl = .nx ∨ fl = .ct) ∧ I (i + 1) ρ2) :
    ∀ (n i : Nat) (ρ : Ev), i + n = items.length → I i ρ → ∃ ρ', loopS g b (items.drop i) ρ = some (.nx, ρ') ∧ I items.length ρ'
  | 0, i, ρ, hn, hI => by
    have e : i = items.length := by omega
    subst e
    exact ⟨ρ, by rw [List.drop_length]; rfl, hI⟩
  | n + 1, i, ρ, hn, hI => by
    have hi : i < items.length := by omega
    obtain ⟨ρ1, fl, ρ2, h1, h2, h3, h4⟩ := h i items[i] ρ (List.getElem?_eq_getElem hi) hI
    obtain ⟨ρ', e1, e2⟩ := loopS_inv I items h n (i + 1) ρ2 (by omega) h4
    refine ⟨ρ', ?_, e2⟩
    rw [List.drop_eq_getElem_cons hi]
    simp only [loopS, h1, h2]
    rcases h3 with rfl | rfl
    · exact e1
    · exact e1
theorem sFor_inv {g : SG} {fi : SI} {b : SS} {ρ ρ1 : Ev} {items : List PyData} (I : Nat → Ev → Prop) (hi : fi ρ = some (items, ρ1)) (h0 : I 0 ρ1) (h : ∀ i d ρ, items[i]? = some d → I i ρ → ∃ ρ1 fl ρ2, g d ρ = some ρ1 ∧ b ρ1 = some (fl, ρ2) ∧ (fl = .nx ∨ fl = .ct) ∧ I (i + 1) ρ2) :
    ∃ ρ', sFor g fi b ρ = some (.nx, ρ') ∧ I items.length ρ' := by
  unfold sFor
  rw [hi]
  exact loopS_inv I items h items.length 0 ρ1 (by omega) h0
end PD

/-! Plain data: data of Lean types -/
namespace PD
open PySem PySem.W
/-- data whose values can be laid -/
class Sh (α : Type) [DecidableEq α] [Datum α] : Prop where
  lay : ∀ a : α, (Datum.toD a).canLay0 = true
instance : Sh Int := ⟨fun _ => by simp [Datum.toD, PyData.canLay0]⟩
instance : Sh Bool := ⟨fun _ => by simp [Datum.toD, PyData.canLay0]⟩
section
variable {α β : Type} [DecidableEq α] [Datum α] [Sh α] [DecidableEq β] [Datum β] [Sh β]
theorem layAll : ∀ xs : List α, PyData.canLayAll0 (xs.map Datum.toD) = true
  | [] => by simp [PyData.canLayAll0]
  | x :: xs => by rw [List.map_cons, PyData.canLayAll0, Sh.lay x, layAll xs]; rfl
instance : Sh (List α) := ⟨fun xs => by show (PyData.list (xs.map Datum.toD)).canLay0 = true; rw [PyData.canLay0]; exact layAll xs⟩
instance : Sh (Tup α) := ⟨fun t => by show (PyData.tuple (t.items.map Datum.toD)).canLay0 = true; rw [PyData.canLay0]; exact layAll _⟩
instance : Sh (α × β) := ⟨fun p => by show (PyData.tuple [Datum.toD p.1, Datum.toD p.2]).canLay0 = true; simp [PyData.canLay0, PyData.canLayAll0, Sh.lay]⟩
theorem shaped_toD (h : Datum.depth α ≤ 64) (x : α) : SeqAt.shaped (Datum.toD x) = true := by
  unfold SeqAt.shaped
  rw [Sh.lay x]
  have := Datum.depth_le x
  simp
  omega
theorem eq_toD (x y : α) (h : Datum.depth α ≤ 64 := by decide) : fEq (Datum.toD x) (Datum.toD y) = some (.bool (decide (x = y))) := by
  unfold fEq
  rw [shaped_toD h x, shaped_toD h y, Datum.eqv]
  rfl
theorem ne_toD (x y : α) (h : Datum.depth α ≤ 64 := by decide) : fNe (Datum.toD x) (Datum.toD y) = some (.bool (!decide (x = y))) := by
  unfold fNe
  rw [shaped_toD h x, shaped_toD h y, Datum.eqv]
  rfl
end
theorem eq_int (i j : Int) : fEq (.int i) (.int j) = some (.bool (decide (i = j))) := eq_toD (α := Int) i j
theorem ne_int (i j : Int) : fNe (.int i) (.int j) = some (.bool (!decide (i = j))) := ne_toD (α := Int) i j
theorem bne_dec (i j : Int) : (i != j) = !decide (i = j) := by
  show (!(i == j)) = _
  rw [beq_decide]
theorem eq_listInt (i j : List Int) : fEq (.list (i.map .int)) (.list (j.map .int)) = some (.bool (decide (i = j))) := eq_toD (α := List Int) i j
theorem ne_listInt (i j : List Int) : fNe (.list (i.map .int)) (.list (j.map .int)) = some (.bool (!decide (i = j))) := ne_toD (α := List Int) i j
instance : Datum Nat where
  toD n := .int (n : Nat)
  plain _ := rfl
  eqv a b := by
    show PyData.eqv (.int a) (.int b) = _
    simp only [PyData.eqv]
    rw [beq_decide]
    exact decide_eq_decide.mpr (by omega)
  depth := 0
  depth_le _ := Nat.le_refl _
instance : Sh Nat := ⟨fun _ => by simp [Datum.toD, PyData.canLay0]⟩
/-- ints of numbers -/
abbrev iN (n : Nat) : PyData := .int (n : Nat)
abbrev lN (ns : List Nat) : PyData := .list (ns.map iN)
abbrev tN (ns : List Nat) : PyData := .tuple (ns.map iN)
theorem eq_nat (i j : Nat) : fEq (iN i) (iN j) = some (.bool (decide (i = j))) := eq_toD (α := Nat) i j
theorem ne_nat (i j : Nat) : fNe (iN i) (iN j) = some (.bool (!decide (i = j))) := ne_toD (α := Nat) i j
theorem eq_pair (i j k l : Nat) : fEq (.tuple [iN i, iN j]) (.tuple [iN k, iN l]) = some (.bool (decide ((i, j) = (k, l)))) := eq_toD (α := Nat × Nat) (i, j) (k, l)
theorem ne_pair (i j k l : Nat) : fNe (.tuple [iN i, iN j]) (.tuple [iN k, iN l]) = some (.bool (!decide ((i, j) = (k, l)))) := ne_toD (α := Nat × Nat) (i, j) (k, l)
theorem fMul_small (i j : Int) (h : 0 ≤ i ∧ i < 1000000) : fMul (.int i) (.int j) = some (.int (i * j)) := by
  unfold fMul
  exact if_pos (.inl (by unfold big; omega))
theorem fDiv_small (i j : Int) (h : 0 < j ∧ j < 1000000) : fDiv (.int i) (.int j) = some (.int (i / j)) := by
  unfold fDiv
  exact if_pos ⟨by omega, by omega⟩
theorem fMod_pos (i j : Int) (h : 0 < j) : fMod (.int i) (.int j) = some (.int (i % j)) := by
  unfold fMod
  exact if_pos h
theorem sRg1_small {f : SA} {ρ ρ1 : Ev} {n : Nat} (e : f ρ = some ([.d (iN n)], ρ1)) (h : n < 1000000) : sRg1 f ρ = some ((List.range n).map iN, ρ1) := by
  unfold sRg1
  rw [e]
  show (if (n : Int).natAbs < 4611686018427387904 then some (rangeD 0 (n : Int), ρ1) else none) = _
  rw [if_pos (by omega)]
  unfold rangeD
  simp
theorem sRg2_small {f : SA} {ρ ρ1 : Ev} {n : Nat} (e : f ρ = some ([.d (.int 1), .d (iN n)], ρ1)) (h : n < 1000000) : sRg2 f ρ = some ((List.range (n - 1)).map (fun i => iN (i + 1)), ρ1) := by
  unfold sRg2
  rw [e]
  show (if (1 : Int).natAbs < 4611686018427387904 ∧ (n : Int).natAbs < 4611686018427387904 then some (rangeD 1 (n : Int), ρ1) else none) = _
  rw [if_pos (by omega)]
  unfold rangeD
  have e : ((n : Int) - 1).toNat = n - 1 := by omega
  rw [e]
  congr 2
  apply List.map_congr_left
  intro i _
  show PyData.int _ = PyData.int _
  congr 1
  omega
/-- an item by its place -/
theorem ix_at {xs : List PyData} {j : Nat} {v : PyData} (h : xs[j]? = some v) : fIx (.list xs) (.int (j : Nat)) = some v ∧ fIx (.tuple xs) (.int (j : Nat)) = some v := ⟨L2.atI_nat h, L2.atI_nat h⟩
theorem ix_map {α : Type} {f : α → PyData} {xs : List α} {j : Nat} {v : α} (h : xs[j]? = some v) : fIx (.list (xs.map f)) (.int (j : Nat)) = some (f v) ∧ fIx (.tuple (xs.map f)) (.int (j : Nat)) = some (f v) :=
  ix_at (by rw [List.getElem?_map, h]; rfl)
theorem flat_map (xs : List Nat) : (xs.map iN).all flatD = true := by
  rw [List.all_eq_true]
  intro d hd
  obtain ⟨n, _, rfl⟩ := List.mem_map.mp hd
  rfl
theorem in_lN (x : Nat) (xs : List Nat) : fIn (iN x) (lN xs) = some (.bool (decide (x ∈ xs))) := by
  show (if SeqAt.shaped (Datum.toD x) && SeqAt.shaped (Datum.toD xs) then some (PyData.bool ((xs.map Datum.toD).any fun z => PyData.eqv z (Datum.toD x))) else none) = _
  rw [shaped_toD (by decide), shaped_toD (by decide), any_datum]
  rfl
theorem notIn_lN (x : Nat) (xs : List Nat) : fNotIn (iN x) (lN xs) = some (.bool (!decide (x ∈ xs))) := by
  show (if SeqAt.shaped (Datum.toD x) && SeqAt.shaped (Datum.toD xs) then some (PyData.bool (!(xs.map Datum.toD).any fun z => PyData.eqv z (Datum.toD x))) else none) = _
  rw [shaped_toD (by decide), shaped_toD (by decide), any_datum]
  rfl
theorem in_lP (x : Nat × Nat) (xs : List (Nat × Nat)) : fIn (Datum.toD x) (.list (xs.map Datum.toD)) = some (.bool (decide (x ∈ xs))) := by
  show (if SeqAt.shaped (Datum.toD x) && SeqAt.shaped (Datum.toD xs) then some (PyData.bool ((xs.map Datum.toD).any fun z => PyData.eqv z (Datum.toD x))) else none) = _
  rw [shaped_toD (by decide), shaped_toD (by decide), any_datum]
  simp
theorem intsOf_nat (ns : List Nat) : intsOf (ns.map iN) = some (ns.map fun (n : Nat) => (n : Int)) := by
  have e : ns.map iN = (ns.map fun (n : Nat) => (n : Int)).map PyData.int := by rw [List.map_map]; rfl
  rw [e, intsOf_map]
theorem count_nat (ns : List Nat) (k : Nat) : (ns.map fun (n : Nat) => (n : Int)).count (k : Int) = ns.count k := by
  induction ns with
  | nil => rfl
  | cons x r ih =>
    rw [List.map_cons, List.count_cons, List.count_cons, ih]
    congr 1
    by_cases h : x = k
    · subst h; simp
    · have h' : ¬ (x : Int) = (k : Int) := by omega
      simp [h, h']
theorem fCount_nat (ns : List Nat) (k : Nat) : fCount (lN ns) (iN k) = some (iN (ns.count k)) := by
  show (match intsOf (ns.map iN) with | some ns => some (PyData.int (ns.count (k : Int) : Nat)) | none => none) = _
  rw [intsOf_nat]
  show some (PyData.int _) = _
  rw [count_nat]
theorem foldl_nat (r : List Nat) : ∀ x : Nat, (r.map fun (n : Nat) => (n : Int)).foldl max (x : Int) = ((r.foldl max x : Nat) : Int) := by
  induction r with
  | nil => intro x; rfl
  | cons y r ih =>
    intro x
    rw [List.map_cons, List.foldl_cons, List.foldl_cons, ← ih]
    congr 1
    exact (by omega : max (x : Int) (y : Int) = ((max x y : Nat) : Int))
/-- the greatest -/
def maxN (ns : List Nat) : Nat := ns.foldl max 0
theorem maxI_nat {ns : List Nat} (h : ns ≠ []) : maxI (ns.map fun (n : Nat) => (n : Int)) = some ((maxN ns : Nat) : Int) := by
  cases ns with
  | nil => exact absurd rfl h
  | cons x r =>
    show some _ = some _
    rw [foldl_nat]
    unfold maxN
    rw [List.foldl_cons, Nat.zero_max]
theorem fMax_tN {ns : List Nat} (h : ns ≠ []) : fMax [tN ns] = some (iN (maxN ns)) := by
  show (match intsOf (ns.map iN) with | some ns => (maxI ns).map PyData.int | none => none) = _
  rw [intsOf_nat]
  show (maxI _).map _ = _
  rw [maxI_nat h]
  rfl
end PD

/-! the end: what stands at names, tables -/
namespace PD
open PySem PySem.Spec PyProof.Rows L2 LamX

theorem mkDk {K : PySem.W.Frag} {h : Heap} {mg : Str → Option Value} {x : Str} {st : Stmt} {ps : List Str} {f : Addr} {oc kV doc pm cd ct : Value} {od an : Option Addr} {osl : Array (Option Value)} (X : K.In h) (G : h.Ns mainGlobals mg)
    (a : PySem.W.nsIn K mainGlobals x = some (some (.ref f))) (l : K.lookup f = some ⟨oc, od, .func (PySem.W.fnOf x x (defArgs st) (defBody st) (defScope st) .none kV doc pm an cd ct), osl⟩) (c : PySem.W.codeIn K cd x = true) (k : PySem.W.keepIn K (.ref f) = true)
    (b : ∀ (kV doc pm : Value) (an : Option Addr) (cdv ct : Value) (us : List Value), us.length = ps.length → bindArgs (PySem.W.fnOf x x (defArgs st) (defBody st) (defScope st) .none kV doc pm an cdv ct) ⟨us, []⟩ = pure (ps.zip us)) : ∃ f fd, Dk K mg x st ps f fd :=
  ⟨f, _, fun_mk l c k, PySem.W.mg_of X G a, (fun_mk (st := st) l c k).binds b⟩
theorem mkDg {K : PySem.W.Frag} {h : Heap} {mg : Str → Option Value} {x : Str} {st : Stmt} {ps : List Str} {f cA Pt : Addr} {oc kV doc pm ct : Value} {od an : Option Addr} {osl : Array (Option Value)} {q : Program} {e : Value} {dd : Option Addr} {vs : Array Value} {sl : Array (Option Value)} (X : K.In h) (G : h.Ns mainGlobals mg)
    (tab : ∀ d ∈ recsOf q, ∃ a o fd c P, mg d.name = some (.ref a) ∧ h.get? a = some o ∧ o.data = .func fd ∧ fd.code = .ref c ∧ h.IsCode c P #[] ∧ h.TableAt c P #[]) (hrec : ((recsOf q).any fun e => e.name == x) = true)
    (a : PySem.W.nsIn K mainGlobals x = some (some (.ref f))) (l : K.lookup f = some ⟨oc, od, .func (PySem.W.fnOf x x (defArgs st) (defBody st) (defScope st) .none kV doc pm an (.ref cA) ct), osl⟩) (c : PySem.W.codeIn K (.ref cA) x = true) (k : PySem.W.keepIn K (.ref f) = true)
    (lc : K.lookup cA = some ⟨e, dd, .fields vs, sl⟩) (h11 : vs[11]? = some (.ref Pt)) (nP : K.lookup Pt = none)
    (b : ∀ (kV doc pm : Value) (an : Option Addr) (cdv ct : Value) (us : List Value), us.length = ps.length → bindArgs (PySem.W.fnOf x x (defArgs st) (defBody st) (defScope st) .none kV doc pm an cdv ct) ⟨us, []⟩ = pure (ps.zip us)) :
    ∃ f fd cA Pt, Dg K mg x st ps f fd cA ∧ h.get? Pt = some { cls := .none, data := .fields #[] } ∧ K.lookup Pt = none ∧ PySem.W.CodeHd h cA Pt := by
  have hmg := PySem.W.mg_of X G a
  refine ⟨f, _, cA, Pt, ⟨⟨oc, od, kV, doc, pm, an, ct, osl, rfl, l, c⟩, k, hmg, (fun_mk (st := st) l c k).binds b⟩, ?_, nP, ?_⟩
  all_goals
    obtain ⟨dL, hm, hn1⟩ := List.any_eq_true.mp hrec
    have hn2 : dL.name = x := beq_iff_eq.mp hn1
    obtain ⟨a', o', fd', c', P', h1, h2, h3, h4, h5, h6⟩ := tab dL hm
    rw [hn2, hmg] at h1
    cases h1
    have g1 := X _ _ l
    rw [g1] at h2
    cases h2
    cases h3
    cases h4
    have hd := PySem.W.CodeHd.of h5 h6
    obtain ⟨⟨oc, vc, e1, _, e3, e4⟩, hP⟩ := h6
    have g2 := X _ _ lc
    rw [g2] at e1
    cases e1
    cases e3
    rw [h11] at e4
    cases e4
    first | exact hP | exact hd
theorem walk_ofG {l : PySem.W.OpenLaw} {n k : Nat} {q : Program} {loose : List Str} {XP : (Str → Option Value) → Heap → Prop} {YP : World → Heap → Prop} {d : DefRec} {K : Params → PySem.W.Frag} {CX : World → CXT} {x : Str}
    (hn : l.most = some n) (hn2 : n ≤ sizeLine) (hdf : d.params.defaults = []) (hr : Room k callerA) (hY : ∀ (w : World) (h : Heap), YP w h → (K w.params).In h)
    (F : ∀ (w : World) (mg : Str → Option Value) (fa : Addr) (h : Heap), YP w h → (K w.params).In h → h.Ns mainGlobals mg → mg d.name = some (.ref fa) →
      (∀ d ∈ recsOf q, ∃ a o fd c P, mg d.name = some (.ref a) ∧ h.get? a = some o ∧ o.data = .func fd ∧ fd.code = .ref c ∧ h.IsCode c P #[] ∧ h.TableAt c P #[]) → LawAtS l w (K w.params) (CX w) k n x mg fa h)
    (hCX : ∀ (w : World) (H : Hp) (s : Shared) (e : Value) (s' : Shared), CX w [] H s (fun _ _ _ => False) e s' → False) :
    PySem.W.WalkO q loose XP YP l.row.toRowW d [] (fun f vs => PySem.call f vs) := by
  refine Att.attach_callB hn hdf fun w s₀ s₁ mg mb fa o pm cd doc a vs ns G Y ho hd hcd hmg hobj hints hlen hbits hg => ?_
  have KX := hY w _ Y
  obtain ⟨fd, cs, sp, hT, nT, C, hb, hsp, hF⟩ := F w mg fa _ Y KX G.T.g hmg G.T.tab
  exact law_callTs KX G.T.g G.T.b G.T.builtins G.T.nolimit hg hT nT C G.T.bmain hobj hints (Nat.le_trans hlen hn2) hr hF hb (fun H hH hS => hsp H a ns hlen hbits hH hS) fun H e s' => hCX w H s₁ e s'
end PD
namespace PD
open PySem PySem.Spec PyProof.Rows L2 LamX
theorem law_sp {K : PySem.W.Frag} {T : List Addr} {p : List PyData → Option PyData} {H : Hp} {a : Addr} {ns : List Int} {E : XK} (kt : ∀ b o, K.lookup b = some o → o.cls = .type "tuple" → PlT o) (hT : ∀ P ∈ T, H P = some (.tbl #[])) (h : SqL K H a (ns.map V.int)) (e : p [.list (ns.map PyData.int)] = some (.bool true)) : spP K T p [.ref a] H (fun v _ => v = .bl true) E := by
  have key : ∃ F : Hp, Same F H ∧ (∀ P ∈ T, F P = none) ∧ TF K F ∧ SqL K F a (ns.map V.int) := by
    have one : ∀ o, TFo o → (∀ ps, o ≠ .tbl ps) → H a = some o → Same (upd (fun _ => none) a o) H ∧ (∀ P ∈ T, upd (fun _ => none) a o P = none) ∧ TF K (upd (fun _ => none) a o) := fun o ho no hH => by
      refine ⟨fun b u z => ?_, fun P hP => ?_, fun b u z => ?_, kt⟩
      · by_cases hb : b = a
        · rw [hb, upd_same] at z
          rw [hb, hH, z]
        · rw [upd_ne hb] at z
          cases z
      · by_cases hb : P = a
        · rw [← hb, hT P hP] at hH
          cases hH
          exact absurd rfl (no _)
        · rw [upd_ne hb]
      · by_cases hb : b = a
        · rw [hb, upd_same] at z
          cases z
          exact ho
        · rw [upd_ne hb] at z
          cases z
    rcases h with (h | ⟨o, h⟩) | h
    · obtain ⟨h1, h2, h3⟩ := one (.lst (ns.map V.int)) trivial (fun _ => by simp) h
      exact ⟨_, h1, h2, h3, .inl (.inl upd_same)⟩
    · obtain ⟨h1, h2, h3⟩ := one (.frz o (.lst (ns.map V.int))) trivial (fun _ => by simp) h
      exact ⟨_, h1, h2, h3, .inl (.inr ⟨o, upd_same⟩)⟩
    · exact ⟨fun _ => none, (fun b u (z : (none : Option HO) = some u) => nomatch z), fun _ _ => rfl, ⟨(fun b u (z : (none : Option HO) = some u) => nomatch z), kt⟩, Or.inr h⟩
  obtain ⟨F, hF, fT, tf, hS⟩ := key
  refine ⟨F, [.list (ns.map PyData.int)], .bool true, .cons (.lst hS (ints_dpAll ns)) .nil, hF, fun P hP => ⟨fT P hP, ?_⟩, tf, e, fun v H' F' _ _ _ _ _ _ dv => ?_⟩
  · exact ⟨#[], hT P hP, by first | trivial | exact .nil | constructor⟩
  · cases dv
    rfl
/-- no tuple of the frame bears a dict -/
def ktB (K : PySem.W.Frag) : Bool := K.all fun p => !(match p.2.cls with | .type t => t == "tuple" | _ => false) || (p.2.dict.isNone && p.2.slots.isEmpty)
theorem kt_of {K : PySem.W.Frag} (h : ktB K = true) : ∀ b o, K.lookup b = some o → o.cls = .type "tuple" → PlT o := by
  unfold ktB at h
  induction K with
  | nil => intro b o e; cases e
  | cons q r ih =>
    intro b o e c
    rw [List.all_cons, Bool.and_eq_true] at h
    rw [List.lookup_cons] at e
    split at e
    · cases e
      have := h.1
      rw [c] at this
      simpa [PlT] using this
    · exact ih h.2 b o e c
end PD
namespace PD
open PySem PySem.Spec PyProof.Rows L2 LamX
theorem withDk {Z : Prop} {K : PySem.W.Frag} {h : Heap} {mg : Str → Option Value} {x : Str} {st : Stmt} {ps : List Str} {f : Addr} {oc kV doc pm cd ct : Value} {od an : Option Addr} {osl : Array (Option Value)} (X : K.In h) (G : h.Ns mainGlobals mg)
    (a : PySem.W.nsIn K mainGlobals x = some (some (.ref f))) (l : K.lookup f = some ⟨oc, od, .func (PySem.W.fnOf x x (defArgs st) (defBody st) (defScope st) .none kV doc pm an cd ct), osl⟩) (c : PySem.W.codeIn K cd x = true) (k : PySem.W.keepIn K (.ref f) = true)
    (b : ∀ (kV doc pm : Value) (an : Option Addr) (cdv ct : Value) (us : List Value), us.length = ps.length → bindArgs (PySem.W.fnOf x x (defArgs st) (defBody st) (defScope st) .none kV doc pm an cdv ct) ⟨us, []⟩ = pure (ps.zip us))
    (next : ∀ f fd, Dk K mg x st ps f fd → Z) : Z := by
  obtain ⟨f, fd, D⟩ := mkDk X G a l c k b
  exact next f fd D
theorem withDg {Z : Prop} {K : PySem.W.Frag} {h : Heap} {mg : Str → Option Value} {x : Str} {st : Stmt} {ps : List Str} {f cA Pt : Addr} {oc kV doc pm ct : Value} {od an : Option Addr} {osl : Array (Option Value)} {q : Program} {e : Value} {dd : Option Addr} {vs : Array Value} {sl : Array (Option Value)} (X : K.In h) (G : h.Ns mainGlobals mg)
    (tab : ∀ d ∈ recsOf q, ∃ a o fd c P, mg d.name = some (.ref a) ∧ h.get? a = some o ∧ o.data = .func fd ∧ fd.code = .ref c ∧ h.IsCode c P #[] ∧ h.TableAt c P #[]) (hrec : ((recsOf q).any fun e => e.name == x) = true)
    (a : PySem.W.nsIn K mainGlobals x = some (some (.ref f))) (l : K.lookup f = some ⟨oc, od, .func (PySem.W.fnOf x x (defArgs st) (defBody st) (defScope st) .none kV doc pm an (.ref cA) ct), osl⟩) (c : PySem.W.codeIn K (.ref cA) x = true) (k : PySem.W.keepIn K (.ref f) = true)
    (lc : K.lookup cA = some ⟨e, dd, .fields vs, sl⟩) (h11 : vs[11]? = some (.ref Pt)) (nP : K.lookup Pt = none)
    (b : ∀ (kV doc pm : Value) (an : Option Addr) (cdv ct : Value) (us : List Value), us.length = ps.length → bindArgs (PySem.W.fnOf x x (defArgs st) (defBody st) (defScope st) .none kV doc pm an cdv ct) ⟨us, []⟩ = pure (ps.zip us))
    (next : ∀ f fd cA Pt, Dg K mg x st ps f fd cA → h.get? Pt = some { cls := .none, data := .fields #[] } → K.lookup Pt = none → PySem.W.CodeHd h cA Pt → Z) : Z := by
  obtain ⟨f, fd, cA, Pt, D, t1, t2, t3⟩ := mkDg X G tab hrec a l c k lc h11 nP b
  exact next f fd cA Pt D t1 t2 t3
theorem Dk.bindsTo {K : PySem.W.Frag} {mg : Str → Option Value} {x : Str} {st : Stmt} {p : Str} {f : Addr} {fd : FuncData} (D : Dk K mg x st [p] f fd) (b : ∀ (kV doc pm : Value) (an : Option Addr) (cdv ct : Value) (u : Value), bindArgs (PySem.W.fnOf x x (defArgs st) (defBody st) (defScope st) .none kV doc pm an cdv ct) ⟨[u], []⟩ = pure [(p, u)]) :
    ∀ (s : Shared) (u : Value), BindsTo s fd ⟨[u], []⟩ [(p, u)] := fun s u => by
  obtain ⟨oc, od, kV, doc, pm, an, cdv, ct, osl, rfl, _⟩ := D.fn.ex
  exact .of_eq (b _ _ _ _ _ _ _)
end PD
namespace PD
open PySem PySem.Spec PyProof.Rows L2 LamX
theorem withC {Z : Prop} {K : PySem.W.Frag} {h : Heap} {mg : Str → Option Value} {x : Str} {v : Value} (X : K.In h) (G : h.Ns mainGlobals mg) (a : PySem.W.nsIn K mainGlobals x = some (some v)) (next : mg x = some v → Z) : Z := next (PySem.W.mg_of X G a)
end PD
namespace PD
open PySem PySem.Spec PyProof.Rows L2 LamX
theorem lawAtS_of {l : PySem.W.OpenLaw} {w : World} {K : PySem.W.Frag} {k n : Nat} {mg : Str → Option Value} {fa : Addr} {h : Heap} {fd : FuncData} (cs : List (Addr × Addr)) (p : List PyData → Option PyData) {x : Str} (kt : ktB K = true)
    (t1 : ∀ q ∈ cs, h.get? q.2 = some { cls := .none, data := .fields #[] }) (t2 : ∀ q ∈ cs, K.lookup q.2 = none) (t3 : ∀ q ∈ cs, PySem.W.CodeHd h q.1 q.2) (hb : ∀ (s : Shared) (u : Value), BindsTo s fd ⟨[u], []⟩ [(x, u)])
    (hm : ∀ ns : List Int, ns.length ≤ n → (∀ z ∈ ns, Builtin.Int.intBits z ≤ 1048576) → p [.list (ns.map PyData.int)] = some (.bool true))
    (hF : ∀ base : Heap, K.In base → base.Ns mainGlobals mg → (∀ q ∈ cs, GxR.TabB base mg q.1 q.2) → FnOk l.prog w K mg base CX0 k fa fd [x] (spP K (cs.map (·.2)) p)) : LawAtS l w K CX0 k n x mg fa h :=
  ⟨fd, cs, spP K (cs.map (·.2)) p, t1, t2, t3, hb, fun H a ns hl hbits hT hS => law_sp (kt_of kt) (fun P hP => by
    obtain ⟨q, hq, e⟩ := List.mem_map.mp hP
    rw [← e]
    exact hT q hq) hS (hm ns hl hbits), fun base KB GB hT => hF base KB GB fun q hq => ⟨(hT q hq).code, (hT q hq).bm, (hT q hq).gP⟩⟩
end PD

namespace S89
open PySem PySem.Spec PyProof.Rows L2 GxR LG PD
def topS (i : Nat) : Stmt := PySem.Challenge.pw_starlands_k89_across_tight_maps.main.body.getD i (.Pass ⟨0, 0, 0, 0⟩)
structure Bt (mg : Str → Option Value) : Prop where
  n_all : mg "all" = none
  n_bool : mg "bool" = none
  n_divmod : mg "divmod" = none
  n_enumerate : mg "enumerate" = none
  n_int : mg "int" = none
  n_isinstance : mg "isinstance" = none
  n_len : mg "len" = none
  n_list : mg "list" = none
  n_max : mg "max" = none
  n_range : mg "range" = none
  n_set : mg "set" = none
  n_sorted : mg "sorted" = none
  n_tuple : mg "tuple" = none
  n_zip : mg "zip" = none
  c_LAST_LAND : ∃ t, mg "LAST_LAND" = some (.int 4 t)
  c_MOST_ARMS : ∃ t, mg "MOST_ARMS" = some (.int 4 t)
  c_MOST_LENGTH : ∃ t, mg "MOST_LENGTH" = some (.int 4 t)
section
variable {P : Program} {w : World} {K : PySem.W.Frag} {mg : Str → Option Value} {base : Heap} {T : List Addr}
/-! ### _law_taken -/
abbrev st__law_taken : Stmt := topS 56
theorem sc__law_taken : FnScope ["row", "many", "found", "cell"] ["row", "many"] (defScope st__law_taken) := ⟨rfl, rfl, rfl, by decide +kernel, rfl, by decide +kernel, by decide +kernel⟩
def g__law_taken : SS := (sSeq (sIfS (toT (s2 fGt (s2 fIx (sB 0) (sC (.int 3))) (sC (.int 0)))) (sSeq (sAsg (s2 fMod (sN fInt (sCons (s2 fIx (sB 0) (sC (.int 3))) sNil)) (sV 1)) (gN 2)) (sSeq (sSetIx 0 (sC (.int 3)) (s2 fDiv (s2 fIx (sB 0) (sC (.int 3))) (sV 1))) (sSeq (sRet (sV 2)) sNx))) sNx) (sSeq (sSetIx 0 (sC (.int 1)) (s2 fAdd (s2 fIx (sB 0) (sC (.int 1))) (sC (.int 1)))) (sSeq (sIfS (toT (s2 fGt (s2 fIx (sB 0) (sC (.int 1))) (sN fLen (sCons (s2 fIx (sB 0) (sC (.int 0))) sNil)))) (sSeq (sSetIx 0 (sC (.int 2)) (s2 fMod (sN fInt (sCons (s2 fAdd (s2 fMul (s2 fIx (sB 0) (sC (.int 2))) (sC (.int 48271))) (sC (.int 11))) sNil)) (sC (.int 2147483647)))) (sSeq (sRet (s2 fMod (sN fInt (sCons (s2 fDiv (s2 fIx (sB 0) (sC (.int 2))) (sC (.int 7))) sNil)) (sV 1))) sNx)) sNx) (sSeq (sAsg (s2 fIx (s2 fIx (sB 0) (sC (.int 0))) (s2 fSub (s2 fIx (sB 0) (sC (.int 1))) (sC (.int 1)))) (gN 3)) (sSeq (sSetIx 0 (sC (.int 2)) (s2 fMod (sN fInt (sCons (s2 fAdd (s2 fAdd (s2 fMul (s2 fIx (sB 0) (sC (.int 2))) (sC (.int 48271))) (sV 3)) (sC (.int 11))) sNil)) (sC (.int 2147483647)))) (sSeq (sIfS (toT (s2 fGe (sV 3) (s2 fPow (sC (.int 10)) (sC (.int 18))))) (sSeq (sSetIx 0 (sC (.int 3)) (s2 fDiv (sV 3) (sV 1))) sNx) sNx) (sSeq (sRet (s2 fMod (sN fInt (sCons (sV 3) sNil)) (sV 1))) sNx)))))))
def p__law_taken : List PyData → List PyData → Option (PyData × List PyData) := fun rs ds => if ds.length + 1 = 2 then bodyI g__law_taken 4 rs ds else none
theorem ok__law_taken {f : Addr} {fd : FuncData} (D : Dk K mg "_law_taken" st__law_taken ["row", "many"] f fd) (B : Bt mg) : FnOk P w K mg base CX0 1 f fd ["row", "many"] (spI K T p__law_taken) :=
  fn_io D.fn sc__law_taken g__law_taken (by decide) fun cdv A outer s H E H0 F0 io hr => (ess_cons (es_if (et_cmp op_gt l2_gt (eo_ix ix_seq l2_ix (eo_b 0 (pv 0)) eo_int (fun _ _ => rfl)) eo_int (nomark _)) (ess_cons (es_asg (fun h hg => ps_asg h hg) (eo_op op_mod l2_mod (eo_bn (fun h => pe_callTy call_int1 (by rfl) B.n_int (by decide +kernel) h) ln_int (ea_cons (eo_ix ix_seq l2_ix (eo_b 0 (pv 0)) eo_int (fun _ _ => rfl)) ea_nil)) (eo_v 1 (pv 1))) (eg_n 2 (pg_name (i := 2) sc__law_taken.nd rfl (Or.inl rfl)))) (ess_cons (es_setIx 0 (fun h hi => ps_asg h (pg_sub (pv 0) hi set_list)) (eo_op op_fdivB l2_div (eo_ix ix_seq l2_ix (eo_b 0 (pv 0)) eo_int (fun _ _ => rfl)) (eo_v 1 (pv 1))) eo_int) (ess_cons (es_ret (eo_v 2 (pv 2))) ess_nil))) ess_nil) (ess_cons (es_setIx 0 (fun h hi => ps_asg h (pg_sub (pv 0) hi set_list)) (eo_op op_add3 l2_add3 (eo_ix ix_seq l2_ix (eo_b 0 (pv 0)) eo_int (fun _ _ => rfl)) eo_int) eo_int) (ess_cons (es_if (et_cmp op_gt l2_gt (eo_ix ix_seq l2_ix (eo_b 0 (pv 0)) eo_int (fun _ _ => rfl)) (eo_bn (fun h => pe_callB call_len_seq (by rfl) B.n_len PySem.boot_len h) ln_len (ea_cons (eo_ix ix_seq l2_ix (eo_b 0 (pv 0)) eo_int (fun _ _ => rfl)) ea_nil)) (nomark _)) (ess_cons (es_setIx 0 (fun h hi => ps_asg h (pg_sub (pv 0) hi set_list)) (eo_op op_mod l2_mod (eo_bn (fun h => pe_callTy call_int1 (by rfl) B.n_int (by decide +kernel) h) ln_int (ea_cons (eo_op op_add3 l2_add3 (eo_op op_mulB l2_mul (eo_ix ix_seq l2_ix (eo_b 0 (pv 0)) eo_int (fun _ _ => rfl)) eo_int) eo_int) ea_nil)) eo_int) eo_int) (ess_cons (es_ret (eo_op op_mod l2_mod (eo_bn (fun h => pe_callTy call_int1 (by rfl) B.n_int (by decide +kernel) h) ln_int (ea_cons (eo_op op_fdivB l2_div (eo_ix ix_seq l2_ix (eo_b 0 (pv 0)) eo_int (fun _ _ => rfl)) eo_int) ea_nil)) (eo_v 1 (pv 1)))) ess_nil)) ess_nil) (ess_cons (es_asg (fun h hg => ps_asg h hg) (eo_ix ix_seq l2_ix (eo_ix ix_seq l2_ix (eo_b 0 (pv 0)) eo_int (fun _ _ => rfl)) (eo_op op_sub l2_sub (eo_ix ix_seq l2_ix (eo_b 0 (pv 0)) eo_int (fun _ _ => rfl)) eo_int) (fun _ _ => rfl)) (eg_n 3 (pg_name (i := 3) sc__law_taken.nd rfl (Or.inl rfl)))) (ess_cons (es_setIx 0 (fun h hi => ps_asg h (pg_sub (pv 0) hi set_list)) (eo_op op_mod l2_mod (eo_bn (fun h => pe_callTy call_int1 (by rfl) B.n_int (by decide +kernel) h) ln_int (ea_cons (eo_op op_add3 l2_add3 (eo_op op_add3 l2_add3 (eo_op op_mulB l2_mul (eo_ix ix_seq l2_ix (eo_b 0 (pv 0)) eo_int (fun _ _ => rfl)) eo_int) (eo_v 3 (pv 3))) eo_int) ea_nil)) eo_int) eo_int) (ess_cons (es_if (et_cmp op_ge l2_ge (eo_v 3 (pv 3)) (eo_op op_pow l2_pow eo_int eo_int) (nomark _)) (ess_cons (es_setIx 0 (fun h hi => ps_asg h (pg_sub (pv 0) hi set_list)) (eo_op op_fdivB l2_div (eo_v 3 (pv 3)) (eo_v 1 (pv 1))) eo_int) ess_nil) ess_nil) (ess_cons (es_ret (eo_op op_mod l2_mod (eo_bn (fun h => pe_callTy call_int1 (by rfl) B.n_int (by decide +kernel) h) ln_int (ea_cons (eo_v 3 (pv 3)) ea_nil)) (eo_v 1 (pv 1)))) ess_nil)))))))
/-! ### is_whole -/
abbrev st_is_whole : Stmt := topS 11
theorem sc_is_whole : FnScope ["value"] ["value"] (defScope st_is_whole) := ⟨rfl, rfl, rfl, by decide +kernel, rfl, by decide +kernel, by decide +kernel⟩
def g_is_whole : SS := (sSeq (sRet (sAnd (sIsi "int" (sV 0)) (sNot (sIsi "bool" (sV 0))))) sNx)
def p_is_whole : List PyData → Option PyData := fun ds => if ds.length = 1 then bodyP g_is_whole 1 ds else none
theorem ok_is_whole {f : Addr} {fd : FuncData} (D : Dk K mg "is_whole" st_is_whole ["value"] f fd) (B : Bt mg) : FnOk P w K mg base CX0 1 f fd ["value"] (spP K T p_is_whole) :=
  fn_pure D.fn sc_is_whole g_is_whole (by decide) fun cdv A outer s H E H0 F0 io hr => (ess_cons (es_ret (eo_and (eo_isi rfl (by decide) (fun h => pe_callB call_isi (by rfl) B.n_isinstance PyProof.Rows.boot_isinstance (pa_cons h (pa_cons (pe_bltn (u := .type "int") (by rfl) B.n_int (by decide +kernel) rfl) pa_nil))) (eo_v 0 (pv 0))) (eo_one (eo_not (eo_isi rfl (by decide) (fun h => pe_callB call_isi (by rfl) B.n_isinstance PyProof.Rows.boot_isinstance (pa_cons h (pa_cons (pe_bltn (u := .type "bool") (by rfl) B.n_bool (by decide +kernel) rfl) pa_nil))) (eo_v 0 (pv 0))))))) ess_nil)
/-! ### is_integer -/
abbrev st_is_integer : Stmt := topS 12
theorem sc_is_integer : FnScope ["value", "low", "high"] ["value", "low", "high"] (defScope st_is_integer) := ⟨rfl, rfl, rfl, by decide +kernel, rfl, by decide +kernel, by decide +kernel⟩
def g_is_integer : SS := (sSeq (sRet (sAnd (sCall p_is_whole [] (sCons (sV 0) sNil)) (sChain fLe fLe (sV 1) (sV 0) (sV 2)))) sNx)
def p_is_integer : List PyData → Option PyData := fun ds => if ds.length = 3 then bodyP g_is_integer 3 ds else none
theorem ok_is_integer {f : Addr} {fd : FuncData} (D : Dk K mg "is_integer" st_is_integer ["value", "low", "high"] f fd) (B : Bt mg) {f_is_whole : Addr} {fd_is_whole : FuncData} (D_is_whole : Dk K mg "is_whole" st_is_whole ["value"] f_is_whole fd_is_whole) (G_is_whole : FnOk P w K mg base CX0 1 f_is_whole fd_is_whole ["value"] (spP K T p_is_whole)) : FnOk P w K mg base CX0 2 f fd ["value", "low", "high"] (spP K T p_is_integer) :=
  fn_pure D.fn sc_is_integer g_is_integer (by decide) fun cdv A outer s H E H0 F0 io hr => (ess_cons (es_ret (eo_and (eo_call (fun h => pe_call G_is_whole (hr.mono (by decide)) (by rfl) D_is_whole.mg D_is_whole.fn.kp D_is_whole.b .nil pass0 h) (ea_cons (eo_v 0 (pv 0)) ea_nil) fun _ => .nil) (eo_one (eo_chain op_le op_le l2_le l2_le (eo_v 1 (pv 1)) (eo_v 0 (pv 0)) (eo_v 2 (pv 2)))))) ess_nil)
/-! ### check_length -/
abbrev st_check_length : Stmt := topS 19
theorem sc_check_length : FnScope ["length", "most"] ["length", "most"] (defScope st_check_length) := ⟨rfl, rfl, rfl, by decide +kernel, rfl, by decide +kernel, by decide +kernel⟩
def g_check_length : SS := (sSeq (sIfS (tNot' (sTr (sCall p_is_integer [] (sCons (sV 0) (sCons (sC (.int 1)) (sCons (sV 1) sNil)))))) (sSeq sNever sNx) sNx) sNx)
def p_check_length : List PyData → Option PyData := fun ds => if ds.length = 2 then bodyP g_check_length 2 ds else none
theorem ok_check_length {f : Addr} {fd : FuncData} (D : Dd K mg "check_length" st_check_length ["length", "most"] f fd [V.int (4)]) (B : Bt mg) {f_is_integer : Addr} {fd_is_integer : FuncData} (D_is_integer : Dk K mg "is_integer" st_is_integer ["value", "low", "high"] f_is_integer fd_is_integer) (G_is_integer : FnOk P w K mg base CX0 2 f_is_integer fd_is_integer ["value", "low", "high"] (spP K T p_is_integer)) : FnOk P w K mg base CX0 3 f fd ["length", "most"] (spP K T p_check_length) :=
  D.pure sc_check_length g_check_length (by decide) fun cdv A outer s H E H0 F0 io hr => (ess_cons (es_if (et_not (et_tr (eo_call (fun h => pe_call G_is_integer (hr.mono (by decide)) (by rfl) D_is_integer.mg D_is_integer.fn.kp D_is_integer.b .nil pass0 h) (ea_cons (eo_v 0 (pv 0)) (ea_cons eo_int (ea_cons (eo_v 1 (pv 1)) ea_nil))) fun _ => .nil))) (ess_cons es_never ess_nil) ess_nil) ess_nil)
/-! ### check_hub -/
abbrev st_check_hub : Stmt := topS 21
theorem sc_check_hub : FnScope ["hub"] ["hub"] (defScope st_check_hub) := ⟨rfl, rfl, rfl, by decide +kernel, rfl, by decide +kernel, by decide +kernel⟩
def g_check_hub : SS := (sSeq (sIfS (tNot' (sTr (sCall p_is_integer [] (sCons (sV 0) (sCons (sC (.int 0)) (sCons (sC (.int (4))) sNil)))))) (sSeq sNever sNx) sNx) sNx)
def p_check_hub : List PyData → Option PyData := fun ds => if ds.length = 1 then bodyP g_check_hub 1 ds else none
theorem ok_check_hub {f : Addr} {fd : FuncData} (D : Dk K mg "check_hub" st_check_hub ["hub"] f fd) (B : Bt mg) {f_is_integer : Addr} {fd_is_integer : FuncData} (D_is_integer : Dk K mg "is_integer" st_is_integer ["value", "low", "high"] f_is_integer fd_is_integer) (G_is_integer : FnOk P w K mg base CX0 2 f_is_integer fd_is_integer ["value", "low", "high"] (spP K T p_is_integer)) : FnOk P w K mg base CX0 3 f fd ["hub"] (spP K T p_check_hub) :=
  fn_pure D.fn sc_check_hub g_check_hub (by decide) fun cdv A outer s H E H0 F0 io hr => (ess_cons (es_if (et_not (et_tr (eo_call (fun h => pe_call G_is_integer (hr.mono (by decide)) (by rfl) D_is_integer.mg D_is_integer.fn.kp D_is_integer.b .nil pass0 h) (ea_cons (eo_v 0 (pv 0)) (ea_cons eo_int (ea_cons (eo_gint (by rfl) B.c_LAST_LAND.choose_spec) ea_nil))) fun _ => .nil))) (ess_cons es_never ess_nil) ess_nil) ess_nil)
/-! ### joined_map -/
abbrev st_joined_map : Stmt := topS 28
theorem sc_joined_map : FnScope ["hub", "rows", "cells", "row"] ["hub", "rows"] (defScope st_joined_map) := ⟨rfl, rfl, rfl, by decide +kernel, rfl, by decide +kernel, by decide +kernel⟩
def b1_joined_map : SS := (sSeq (sExtT 2 (sV 3)) sNx)
def l1_joined_map : SS := sFor (gN 3) (sSq (sV 1)) b1_joined_map
def g_joined_map : SS := (sSeq (sOwn 2 (sLst (sCons (sV 0) sNil))) (sSeq l1_joined_map (sSeq (sRet (sTup (sCons (sN fLen (sCons (sV 1) sNil)) (sCons (sN fTupOf (sCons (sB 2) sNil)) sNil)))) sNx)))
def p_joined_map : List PyData → Option PyData := fun ds => if ds.length = 2 then bodyP g_joined_map 4 ds else none
theorem ok_joined_map {f : Addr} {fd : FuncData} (D : Dk K mg "joined_map" st_joined_map ["hub", "rows"] f fd) (B : Bt mg) : FnOk P w K mg base CX0 1 f fd ["hub", "rows"] (spP K T p_joined_map) :=
  fn_pure D.fn sc_joined_map g_joined_map (by decide) fun cdv A outer s H E H0 F0 io hr => (ess_cons (es_own 2 (fun h => ps_set (i := 2) sc_joined_map.nd rfl (Or.inl rfl) h) (ef_lst (ea_cons (eo_v 0 (pv 0)) ea_nil))) (ess_cons (es_for (fun wi hg hb => ps_for PassesOwn.never rfl wi hg hb) (ei_sq rfl (eo_v 1 (pv 1))) (eg_n 3 (pg_name (i := 3) sc_joined_map.nd rfl (Or.inl rfl))) (ess_cons (es_extT 2 rfl (fun h => ps_expr (pe_bm PySem.F.plainAttrs_list PySem.F.slot_list_extend PySem.F.type_list_extend mt_extT (pv 2) (pa_cons h pa_nil))) (eo_v 3 (pv 3))) ess_nil)) (ess_cons (es_ret (eo_tup (ea_cons (eo_bn (fun h => pe_callB call_len_seq (by rfl) B.n_len PySem.boot_len h) ln_len (ea_cons (eo_v 1 (pv 1)) ea_nil)) (ea_cons (eo_bn (fun h => pe_callTy call_tupF (by rfl) B.n_tuple (by decide +kernel) h) ln_tup (ea_cons (eo_b 2 (pv 2)) ea_nil)) ea_nil)))) ess_nil)))
/-! ### are_integers -/
abbrev st_are_integers : Stmt := topS 13
theorem sc_are_integers : FnScope ["value", "low", "high", "thing"] ["value", "low", "high"] (defScope st_are_integers) := ⟨rfl, rfl, rfl, by decide +kernel, rfl, by decide +kernel, by decide +kernel⟩
def a1_are_integers : SE := sAll (sSq (sV 0)) (gN 3) (sCall p_is_integer [] (sCons (sV 3) (sCons (sV 1) (sCons (sV 2) sNil)))) [3]
def g_are_integers : SS := (sSeq (sRet (sAnd (sIsi "tuple" (sV 0)) a1_are_integers)) sNx)
def p_are_integers : List PyData → Option PyData := fun ds => if ds.length = 3 then bodyP g_are_integers 4 ds else none
theorem ok_are_integers {f : Addr} {fd : FuncData} {cA P0 : Addr} (D : Dg K mg "are_integers" st_are_integers ["value", "low", "high"] f fd cA) (B : Bt mg) (TB : TabB base mg cA P0) (hP : P0 ∈ T) {f_is_integer : Addr} {fd_is_integer : FuncData} (D_is_integer : Dk K mg "is_integer" st_is_integer ["value", "low", "high"] f_is_integer fd_is_integer) (G_is_integer : FnOk P w K mg base CX0 2 f_is_integer fd_is_integer ["value", "low", "high"] (spP K T p_is_integer)) : FnOk P w K mg base CX0 4 f fd ["value", "low", "high"] (spP K T p_are_integers) :=
  D.pure sc_are_integers g_are_integers (by decide) fun A outer s H E H0 F0 io hr => (ess_cons (es_ret (eo_and (eo_isi rfl (by decide) (fun h => pe_callB call_isi (by rfl) B.n_isinstance PyProof.Rows.boot_isinstance (pa_cons h (pa_cons (pe_bltn (u := .type "tuple") (by rfl) B.n_tuple (by decide +kernel) rfl) pa_nil))) (eo_v 0 (pv 0))) (eo_one (eo_all (own := [("thing", 3)]) (k := 2) hP (fun wi hg he => pe_allG (own := [("thing", 3)]) (k := 2) rfl sc_are_integers.nd hr (by rfl) B.n_all TB rfl ⟨blkOk_by (N := ["value", "low", "high", "thing"]) (sc := defScope st_are_integers) (by decide +kernel), by decide +kernel, by decide +kernel, rfl⟩ wi hg he) (ei_sq rfl (eo_v 0 (pv 0))) (by decide) (fun s1 H1 A1 C1 code1 fp1 => (eg_n 3 (pg_name (i := 3) sc_are_integers.nd rfl (Or.inl rfl)))) (fun s1 H1 A1 C1 code1 fp1 HG => (eo_call (fun h => pe_call G_is_integer (HG.mono (by decide)) (by rfl) D_is_integer.mg D_is_integer.fn.kp D_is_integer.b .nil pass0 h) (ea_cons (eo_v 3 (pv 3)) (ea_cons (eo_v 1 (pv 1)) (ea_cons (eo_v 2 (pv 2)) ea_nil))) fun _ => .nil)))))) ess_nil)
/-! ### are_orders -/
abbrev st_are_orders : Stmt := topS 33
theorem sc_are_orders : FnScope ["value", "order"] ["value"] (defScope st_are_orders) := ⟨rfl, rfl, rfl, by decide +kernel, rfl, by decide +kernel, by decide +kernel⟩
def a1_are_orders : SE := sAll (sSq (sV 0)) (gN 1) (sCall p_are_integers [] (sCons (sV 1) (sCons (sC (.int 0)) (sCons (sC (.int (4))) sNil)))) [1]
def g_are_orders : SS := (sSeq (sIfS (tOr' (tNot' (sTr (sIsi "tuple" (sV 0)))) (toT (s2 fNotIn (sN fLen (sCons (sV 0) sNil)) (sTup (sCons (sC (.int 3)) (sCons (sC (.int 4)) sNil)))))) (sSeq (sRet (sC (.bool false))) sNx) sNx) (sSeq (sRet a1_are_orders) sNx))
def p_are_orders : List PyData → Option PyData := fun ds => if ds.length = 1 then bodyP g_are_orders 2 ds else none
theorem ok_are_orders {f : Addr} {fd : FuncData} {cA P0 : Addr} (D : Dg K mg "are_orders" st_are_orders ["value"] f fd cA) (B : Bt mg) (TB : TabB base mg cA P0) (hP : P0 ∈ T) {f_are_integers : Addr} {fd_are_integers : FuncData} {c_are_integers : Addr} (D_are_integers : Dg K mg "are_integers" st_are_integers ["value", "low", "high"] f_are_integers fd_are_integers c_are_integers) (G_are_integers : FnOk P w K mg base CX0 4 f_are_integers fd_are_integers ["value", "low", "high"] (spP K T p_are_integers)) : FnOk P w K mg base CX0 6 f fd ["value"] (spP K T p_are_orders) :=
  D.pure sc_are_orders g_are_orders (by decide) fun A outer s H E H0 F0 io hr => (ess_cons (es_if (et_w (ew_or (et_not (et_tr (eo_isi rfl (by decide) (fun h => pe_callB call_isi (by rfl) B.n_isinstance PyProof.Rows.boot_isinstance (pa_cons h (pa_cons (pe_bltn (u := .type "tuple") (by rfl) B.n_tuple (by decide +kernel) rfl) pa_nil))) (eo_v 0 (pv 0))))) (ew_or1 (et_cmp (op_notInA (hu65 hr)) l2_notIn (eo_bn (fun h => pe_callB call_len_seq (by rfl) B.n_len PySem.boot_len h) ln_len (ea_cons (eo_v 0 (pv 0)) ea_nil)) (eo_tup (ea_cons eo_int (ea_cons eo_int ea_nil))) (by with_unfolding_all rfl))))) (ess_cons (es_ret eo_bl) ess_nil) ess_nil) (ess_cons (es_ret (eo_all (own := [("order", 1)]) (k := 4) hP (fun wi hg he => pe_allG (own := [("order", 1)]) (k := 4) rfl sc_are_orders.nd hr (by rfl) B.n_all TB rfl ⟨blkOk_by (N := ["value", "order"]) (sc := defScope st_are_orders) (by decide +kernel), by decide +kernel, by decide +kernel, rfl⟩ wi hg he) (ei_sq rfl (eo_v 0 (pv 0))) (by decide) (fun s1 H1 A1 C1 code1 fp1 => (eg_n 1 (pg_name (i := 1) sc_are_orders.nd rfl (Or.inl rfl)))) (fun s1 H1 A1 C1 code1 fp1 HG => (eo_call (fun h => pe_call G_are_integers (HG.mono (by decide)) (by rfl) D_are_integers.mg D_are_integers.kp D_are_integers.b .nil pass0 h) (ea_cons (eo_v 1 (pv 1)) (ea_cons eo_int (ea_cons (eo_gint (by rfl) B.c_LAST_LAND.choose_spec) ea_nil))) fun _ => .nil)))) ess_nil))
/-! ### inner_cell -/
abbrev st_inner_cell : Stmt := topS 15
theorem sc_inner_cell : FnScope ["length", "cell"] ["length", "cell"] (defScope st_inner_cell) := ⟨rfl, rfl, rfl, by decide +kernel, rfl, by decide +kernel, by decide +kernel⟩
def g_inner_cell : SS := (sSeq (sRet (sIf (sTr (s2 fMod (s2 fSub (sV 1) (sC (.int 1))) (sV 0))) (s2 fSub (sV 1) (sC (.int 1))) (sC (.int 0)))) sNx)
def p_inner_cell : List PyData → Option PyData := fun ds => if ds.length = 2 then bodyP g_inner_cell 2 ds else none
theorem ok_inner_cell {f : Addr} {fd : FuncData} (D : Dk K mg "inner_cell" st_inner_cell ["length", "cell"] f fd) (B : Bt mg) : FnOk P w K mg base CX0 1 f fd ["length", "cell"] (spP K T p_inner_cell) :=
  fn_pure D.fn sc_inner_cell g_inner_cell (by decide) fun cdv A outer s H E H0 F0 io hr => (ess_cons (es_ret (eo_if (et_tr (eo_op op_mod l2_mod (eo_op op_sub l2_sub (eo_v 1 (pv 1)) eo_int) (eo_v 0 (pv 0)))) (eo_op op_sub l2_sub (eo_v 1 (pv 1)) eo_int) eo_int)) ess_nil)
/-! ### hang_together -/
abbrev st_hang_together : Stmt := topS 17
theorem sc_hang_together : FnScope ["length", "cells", "lands", "crossings", "cell"] ["length", "cells"] (defScope st_hang_together) := ⟨rfl, rfl, rfl, by decide +kernel, rfl, by decide +kernel, by decide +kernel⟩
def c1_hang_together : SI := sComp (sRg2 (sCons (sC (.int 1)) (sCons (sN fLen (sCons (sV 1) sNil)) sNil))) (gN 4) (toT (s2 fNe (s2 fIx (sV 1) (sV 4)) (s2 fIx (sV 1) (sCall p_inner_cell [] (sCons (sV 0) (sCons (sV 4) sNil)))))) (sV 4) [4]
def g_hang_together : SS := (sSeq (sAsg (s2 fAdd (sN fMax (sCons (sV 1) sNil)) (sC (.int 1))) (gN 2)) (sSeq (sIfS (toT (s2 fNe (sLenSet (sV 1)) (sV 2))) (sSeq (sRet (sC (.bool false))) sNx) sNx) (sSeq (sAsg (sFr c1_hang_together) (gN 3)) (sSeq (sRet (s2 fEq (s2 fAdd (sN fLen (sCons (sV 3) sNil)) (sC (.int 1))) (sV 2))) sNx))))
def p_hang_together : List PyData → Option PyData := fun ds => if ds.length = 2 then bodyP g_hang_together 5 ds else none
theorem ok_hang_together {f : Addr} {fd : FuncData} (D : Dk K mg "hang_together" st_hang_together ["length", "cells"] f fd) (B : Bt mg) {f_inner_cell : Addr} {fd_inner_cell : FuncData} (D_inner_cell : Dk K mg "inner_cell" st_inner_cell ["length", "cell"] f_inner_cell fd_inner_cell) (G_inner_cell : FnOk P w K mg base CX0 1 f_inner_cell fd_inner_cell ["length", "cell"] (spP K T p_inner_cell)) : FnOk P w K mg base CX0 2 f fd ["length", "cells"] (spP K T p_hang_together) :=
  fn_pure D.fn sc_hang_together g_hang_together (by decide) fun cdv A outer s H E H0 F0 io hr => (ess_cons (es_asg (fun h hg => ps_asg h hg) (eo_op op_add3 l2_add3 (eo_bn (fun h => pe_callB (cr_maxA (by rfl) (hu64 hr)) (by rfl) B.n_max (by decide +kernel) h) ln_max (ea_cons (eo_v 1 (pv 1)) ea_nil)) eo_int) (eg_n 2 (pg_name (i := 2) sc_hang_together.nd rfl (Or.inl rfl)))) (ess_cons (es_if (et_cmp (op_neD (hu64 hr)) l2_ne (eo_lenSet rfl (fun h => pe_lenSet (by rfl) B.n_len (by rfl) B.n_set h) (eo_v 1 (pv 1))) (eo_v 2 (pv 2)) (nomark _)) (ess_cons (es_ret eo_bl) ess_nil) ess_nil) (ess_cons (es_lc frS (i := 3) (own := [("cell", 4)]) (fun wi hg ht he => ps_setLc (i := 3) (own := [("cell", 4)]) rfl sc_hang_together.nd rfl rfl (sw_true rfl rfl rfl (by decide +kernel)) wi (blkOk_by (N := ["length", "cells", "lands", "crossings", "cell"]) (sc := defScope st_hang_together) (by decide +kernel)) hg ht he) (ei_rg2 (fun h => pi_range2 (by rfl) B.n_range h) (ea_cons eo_int (ea_cons (eo_bn (fun h => pe_callB call_len_seq (by rfl) B.n_len PySem.boot_len h) ln_len (ea_cons (eo_v 1 (pv 1)) ea_nil)) ea_nil))) (by decide) (fun H0 F0 io s1 H1 C1 cl1 fp1 => (eg_n 4 (pg_name (i := 4) sc_hang_together.nd rfl (Or.inl rfl)))) (fun H0 F0 io s1 H1 C1 cl1 fp1 => (ets_one (et_cmp (op_neD (hu64 hr)) l2_ne (eo_ix ix_seq l2_ix (eo_v 1 (pv 1)) (eo_v 4 (pv 4)) (fun _ _ => rfl)) (eo_ix ix_seq l2_ix (eo_v 1 (pv 1)) (eo_call (fun h => pe_call G_inner_cell (hr.mono (by decide)) (by rfl) D_inner_cell.mg D_inner_cell.fn.kp D_inner_cell.b .nil pass0 h) (ea_cons (eo_v 0 (pv 0)) (ea_cons (eo_v 4 (pv 4)) ea_nil)) fun _ => .nil) (fun _ _ => rfl)) (nomark _)))) (fun H0 F0 io s1 H1 C1 cl1 fp1 => (eo_v 4 (pv 4)))) (ess_cons (es_ret (eo_cmp (op_eqD (hu64 hr)) l2_eq (eo_op op_add3 l2_add3 (eo_bn (fun h => pe_callB call_len_seq (by rfl) B.n_len PySem.boot_len h) ln_len (ea_cons (eo_v 3 (pv 3)) ea_nil)) eo_int) (eo_v 2 (pv 2)) (nomark _))) ess_nil))))
/-! ### is_pair -/
abbrev st_is_pair : Stmt := topS 14
theorem sc_is_pair : FnScope ["value"] ["value"] (defScope st_is_pair) := ⟨rfl, rfl, rfl, by decide +kernel, rfl, by decide +kernel, by decide +kernel⟩
def g_is_pair : SS := (sSeq (sRet (sAnd (sIsi "tuple" (sV 0)) (s2 fEq (sN fLen (sCons (sV 0) sNil)) (sC (.int 2))))) sNx)
def p_is_pair : List PyData → Option PyData := fun ds => if ds.length = 1 then bodyP g_is_pair 1 ds else none
theorem ok_is_pair {f : Addr} {fd : FuncData} (D : Dk K mg "is_pair" st_is_pair ["value"] f fd) (B : Bt mg) : FnOk P w K mg base CX0 1 f fd ["value"] (spP K T p_is_pair) :=
  fn_pure D.fn sc_is_pair g_is_pair (by decide) fun cdv A outer s H E H0 F0 io hr => (ess_cons (es_ret (eo_and (eo_isi rfl (by decide) (fun h => pe_callB call_isi (by rfl) B.n_isinstance PyProof.Rows.boot_isinstance (pa_cons h (pa_cons (pe_bltn (u := .type "tuple") (by rfl) B.n_tuple (by decide +kernel) rfl) pa_nil))) (eo_v 0 (pv 0))) (eo_one (eo_cmp (op_eqD (hu64 hr)) l2_eq (eo_bn (fun h => pe_callB call_len_seq (by rfl) B.n_len PySem.boot_len h) ln_len (ea_cons (eo_v 0 (pv 0)) ea_nil)) eo_int (nomark _))))) ess_nil)
/-! ### is_chart -/
abbrev st_is_chart : Stmt := topS 18
theorem sc_is_chart : FnScope ["value", "arms", "cells", "length", "rest"] ["value"] (defScope st_is_chart) := ⟨rfl, rfl, rfl, by decide +kernel, rfl, by decide +kernel, by decide +kernel⟩
def g_is_chart : SS := (sSeq (sIfS (tNot' (sTr (sCall p_is_pair [] (sCons (sV 0) sNil)))) (sSeq (sRet (sC (.bool false))) sNx) sNx) (sSeq (sAsg (sV 0) (gT (gsCons (gN 1) (gsCons (gN 2) gsNil)) 2)) (sSeq (sIfS (tOr' (tNot' (sTr (sCall p_is_integer [] (sCons (sV 1) (sCons (sC (.int 3)) (sCons (sC (.int (4))) sNil)))))) (tNot' (sTr (sIsi "tuple" (sV 2))))) (sSeq (sRet (sC (.bool false))) sNx) sNx) (sSeq (sAsg (sN fDivmod (sCons (s2 fSub (sN fLen (sCons (sV 2) sNil)) (sC (.int 1))) (sCons (sV 1) sNil))) (gT (gsCons (gN 3) (gsCons (gN 4) gsNil)) 2)) (sSeq (sIfS (tOr' (toT (s2 fNe (sV 4) (sC (.int 0)))) (tNot' (toT (sChain fLe fLe (sC (.int 1)) (sV 3) (sC (.int (4))))))) (sSeq (sRet (sC (.bool false))) sNx) sNx) (sSeq (sIfS (tOr' (tNot' (sTr (sCall p_are_integers [] (sCons (sV 2) (sCons (sC (.int 0)) (sCons (sV 3) sNil)))))) (toT (s2 fEq (sN fMax (sCons (sV 2) sNil)) (sC (.int 0))))) (sSeq (sRet (sC (.bool false))) sNx) sNx) (sSeq (sRet (sCall p_hang_together [] (sCons (sV 3) (sCons (sV 2) sNil)))) sNx)))))))
def p_is_chart : List PyData → Option PyData := fun ds => if ds.length = 1 then bodyP g_is_chart 5 ds else none
theorem ok_is_chart {f : Addr} {fd : FuncData} (D : Dk K mg "is_chart" st_is_chart ["value"] f fd) (B : Bt mg) {f_is_pair : Addr} {fd_is_pair : FuncData} (D_is_pair : Dk K mg "is_pair" st_is_pair ["value"] f_is_pair fd_is_pair) (G_is_pair : FnOk P w K mg base CX0 1 f_is_pair fd_is_pair ["value"] (spP K T p_is_pair)) {f_is_integer : Addr} {fd_is_integer : FuncData} (D_is_integer : Dk K mg "is_integer" st_is_integer ["value", "low", "high"] f_is_integer fd_is_integer) (G_is_integer : FnOk P w K mg base CX0 2 f_is_integer fd_is_integer ["value", "low", "high"] (spP K T p_is_integer)) {f_are_integers : Addr} {fd_are_integers : FuncData} {c_are_integers : Addr} (D_are_integers : Dg K mg "are_integers" st_are_integers ["value", "low", "high"] f_are_integers fd_are_integers c_are_integers) (G_are_integers : FnOk P w K mg base CX0 4 f_are_integers fd_are_integers ["value", "low", "high"] (spP K T p_are_integers)) {f_hang_together : Addr} {fd_hang_together : FuncData} (D_hang_together : Dk K mg "hang_together" st_hang_together ["length", "cells"] f_hang_together fd_hang_together) (G_hang_together : FnOk P w K mg base CX0 2 f_hang_together fd_hang_together ["length", "cells"] (spP K T p_hang_together)) : FnOk P w K mg base CX0 5 f fd ["value"] (spP K T p_is_chart) :=
  fn_pure D.fn sc_is_chart g_is_chart (by decide) fun cdv A outer s H E H0 F0 io hr => (ess_cons (es_if (et_not (et_tr (eo_call (fun h => pe_call G_is_pair (hr.mono (by decide)) (by rfl) D_is_pair.mg D_is_pair.fn.kp D_is_pair.b .nil pass0 h) (ea_cons (eo_v 0 (pv 0)) ea_nil) fun _ => .nil))) (ess_cons (es_ret eo_bl) ess_nil) ess_nil) (ess_cons (es_asg (fun h hg => ps_asg h hg) (eo_v 0 (pv 0)) (eg_t (egs_cons (eg_n 1 (pg_name (i := 1) sc_is_chart.nd rfl (Or.inl rfl))) (egs_cons (eg_n 2 (pg_name (i := 2) sc_is_chart.nd rfl (Or.inl rfl))) egs_nil (fun h h1 => pgs_cons h h1)) (fun h h1 => pgs_cons h h1)) (fun h => pg_tup (by rfl) h) rfl)) (ess_cons (es_if (et_w (ew_or (et_not (et_tr (eo_call (fun h => pe_call G_is_integer (hr.mono (by decide)) (by rfl) D_is_integer.mg D_is_integer.fn.kp D_is_integer.b .nil pass0 h) (ea_cons (eo_v 1 (pv 1)) (ea_cons eo_int (ea_cons (eo_gint (by rfl) B.c_MOST_ARMS.choose_spec) ea_nil))) fun _ => .nil))) (ew_or1 (et_not (et_tr (eo_isi rfl (by decide) (fun h => pe_callB call_isi (by rfl) B.n_isinstance PyProof.Rows.boot_isinstance (pa_cons h (pa_cons (pe_bltn (u := .type "tuple") (by rfl) B.n_tuple (by decide +kernel) rfl) pa_nil))) (eo_v 2 (pv 2)))))))) (ess_cons (es_ret eo_bl) ess_nil) ess_nil) (ess_cons (es_asg (fun h hg => ps_asg h hg) (eo_bn (fun h => pe_callB call_divF (by rfl) B.n_divmod (by decide +kernel) h) ln_divmod (ea_cons (eo_op op_sub l2_sub (eo_bn (fun h => pe_callB call_len_seq (by rfl) B.n_len PySem.boot_len h) ln_len (ea_cons (eo_v 2 (pv 2)) ea_nil)) eo_int) (ea_cons (eo_v 1 (pv 1)) ea_nil))) (eg_t (egs_cons (eg_n 3 (pg_name (i := 3) sc_is_chart.nd rfl (Or.inl rfl))) (egs_cons (eg_n 4 (pg_name (i := 4) sc_is_chart.nd rfl (Or.inl rfl))) egs_nil (fun h h1 => pgs_cons h h1)) (fun h h1 => pgs_cons h h1)) (fun h => pg_tup (by rfl) h) rfl)) (ess_cons (es_if (et_w (ew_or (et_cmp (op_neD (hu64 hr)) l2_ne (eo_v 4 (pv 4)) eo_int (nomark _)) (ew_or1 (et_not (et_chain op_le op_le l2_le l2_le eo_int (eo_v 3 (pv 3)) (eo_gint (by rfl) B.c_MOST_LENGTH.choose_spec)))))) (ess_cons (es_ret eo_bl) ess_nil) ess_nil) (ess_cons (es_if (et_w (ew_or (et_not (et_tr (eo_call (fun h => pe_call G_are_integers (hr.mono (by decide)) (by rfl) D_are_integers.mg D_are_integers.kp D_are_integers.b .nil pass0 h) (ea_cons (eo_v 2 (pv 2)) (ea_cons eo_int (ea_cons (eo_v 3 (pv 3)) ea_nil))) fun _ => .nil))) (ew_or1 (et_cmp (op_eqD (hu64 hr)) l2_eq (eo_bn (fun h => pe_callB (cr_maxA (by rfl) (hu64 hr)) (by rfl) B.n_max (by decide +kernel) h) ln_max (ea_cons (eo_v 2 (pv 2)) ea_nil)) eo_int (nomark _))))) (ess_cons (es_ret eo_bl) ess_nil) ess_nil) (ess_cons (es_ret (eo_call (fun h => pe_call G_hang_together (hr.mono (by decide)) (by rfl) D_hang_together.mg D_hang_together.fn.kp D_hang_together.b .nil pass0 h) (ea_cons (eo_v 3 (pv 3)) (ea_cons (eo_v 2 (pv 2)) ea_nil)) fun _ => .nil)) ess_nil)))))))
/-! ### check_chart -/
abbrev st_check_chart : Stmt := topS 20
theorem sc_check_chart : FnScope ["chart"] ["chart"] (defScope st_check_chart) := ⟨rfl, rfl, rfl, by decide +kernel, rfl, by decide +kernel, by decide +kernel⟩
def g_check_chart : SS := (sSeq (sIfS (tNot' (sTr (sCall p_is_chart [] (sCons (sV 0) sNil)))) (sSeq sNever sNx) sNx) sNx)
def p_check_chart : List PyData → Option PyData := fun ds => if ds.length = 1 then bodyP g_check_chart 1 ds else none
theorem ok_check_chart {f : Addr} {fd : FuncData} (D : Dk K mg "check_chart" st_check_chart ["chart"] f fd) (B : Bt mg) {f_is_chart : Addr} {fd_is_chart : FuncData} (D_is_chart : Dk K mg "is_chart" st_is_chart ["value"] f_is_chart fd_is_chart) (G_is_chart : FnOk P w K mg base CX0 5 f_is_chart fd_is_chart ["value"] (spP K T p_is_chart)) : FnOk P w K mg base CX0 6 f fd ["chart"] (spP K T p_check_chart) :=
  fn_pure D.fn sc_check_chart g_check_chart (by decide) fun cdv A outer s H E H0 F0 io hr => (ess_cons (es_if (et_not (et_tr (eo_call (fun h => pe_call G_is_chart (hr.mono (by decide)) (by rfl) D_is_chart.mg D_is_chart.fn.kp D_is_chart.b .nil pass0 h) (ea_cons (eo_v 0 (pv 0)) ea_nil) fun _ => .nil))) (ess_cons es_never ess_nil) ess_nil) ess_nil)
/-! ### lands_met -/
abbrev st_lands_met : Stmt := topS 31
theorem sc_lands_met : FnScope ["hub", "row", "met", "before", "land"] ["hub", "row"] (defScope st_lands_met) := ⟨rfl, rfl, rfl, by decide +kernel, rfl, by decide +kernel, by decide +kernel⟩
def b1_lands_met : SS := (sSeq (sIfS (toT (s2 fNe (sV 4) (sV 3))) (sSeq (sApp 2 (sV 4)) sNx) sNx) (sSeq (sAsg (sV 4) (gN 3)) sNx))
def l1_lands_met : SS := sFor (gN 4) (sSq (sV 1)) b1_lands_met
def g_lands_met : SS := (sSeq (sOwn 2 (sLst sNil)) (sSeq (sAsg (sV 0) (gN 3)) (sSeq l1_lands_met (sSeq (sRet (sN fTupOf (sCons (sB 2) sNil))) sNx))))
def p_lands_met : List PyData → Option PyData := fun ds => if ds.length = 2 then bodyP g_lands_met 5 ds else none
theorem ok_lands_met {f : Addr} {fd : FuncData} (D : Dk K mg "lands_met" st_lands_met ["hub", "row"] f fd) (B : Bt mg) : FnOk P w K mg base CX0 1 f fd ["hub", "row"] (spP K T p_lands_met) :=
  fn_pure D.fn sc_lands_met g_lands_met (by decide) fun cdv A outer s H E H0 F0 io hr => (ess_cons (es_own 2 (fun h => ps_set (i := 2) sc_lands_met.nd rfl (Or.inl rfl) h) (ef_lst ea_nil)) (ess_cons (es_asg (fun h hg => ps_asg h hg) (eo_v 0 (pv 0)) (eg_n 3 (pg_name (i := 3) sc_lands_met.nd rfl (Or.inl rfl)))) (ess_cons (es_for (fun wi hg hb => ps_for PassesOwn.never rfl wi hg hb) (ei_sq rfl (eo_v 1 (pv 1))) (eg_n 4 (pg_name (i := 4) sc_lands_met.nd rfl (Or.inl rfl))) (ess_cons (es_if (et_cmp (op_neD (hu64 hr)) l2_ne (eo_v 4 (pv 4)) (eo_v 3 (pv 3)) (nomark _)) (ess_cons (es_app 2 rfl (fun h => ps_expr (pe_bm PySem.F.plainAttrs_list PySem.F.slot_list_append PySem.F.type_list_append mt_append (pv 2) (pa_cons h pa_nil))) (eo_v 4 (pv 4))) ess_nil) ess_nil) (ess_cons (es_asg (fun h hg => ps_asg h hg) (eo_v 4 (pv 4)) (eg_n 3 (pg_name (i := 3) sc_lands_met.nd rfl (Or.inl rfl)))) ess_nil))) (ess_cons (es_ret (eo_bn (fun h => pe_callTy call_tupF (by rfl) B.n_tuple (by decide +kernel) h) ln_tup (ea_cons (eo_b 2 (pv 2)) ea_nil))) ess_nil))))
/-! ### length_of -/
abbrev st_length_of : Stmt := topS 16
theorem sc_length_of : FnScope ["chart"] ["chart"] (defScope st_length_of) := ⟨rfl, rfl, rfl, by decide +kernel, rfl, by decide +kernel, by decide +kernel⟩
def g_length_of : SS := (sSeq (sRet (s2 fDiv (s2 fSub (sN fLen (sCons (s2 fIx (sV 0) (sC (.int 1))) sNil)) (sC (.int 1))) (s2 fIx (sV 0) (sC (.int 0))))) sNx)
def p_length_of : List PyData → Option PyData := fun ds => if ds.length = 1 then bodyP g_length_of 1 ds else none
theorem ok_length_of {f : Addr} {fd : FuncData} (D : Dk K mg "length_of" st_length_of ["chart"] f fd) (B : Bt mg) : FnOk P w K mg base CX0 1 f fd ["chart"] (spP K T p_length_of) :=
  fn_pure D.fn sc_length_of g_length_of (by decide) fun cdv A outer s H E H0 F0 io hr => (ess_cons (es_ret (eo_op op_fdivB l2_div (eo_op op_sub l2_sub (eo_bn (fun h => pe_callB call_len_seq (by rfl) B.n_len PySem.boot_len h) ln_len (ea_cons (eo_ix ix_seq l2_ix (eo_v 0 (pv 0)) eo_int (fun _ _ => rfl)) ea_nil)) eo_int) (eo_ix ix_seq l2_ix (eo_v 0 (pv 0)) eo_int (fun _ _ => rfl)))) ess_nil)
/-! ### arm_rows -/
abbrev st_arm_rows : Stmt := topS 25
theorem sc_arm_rows : FnScope ["chart", "arms", "cells", "length", "arm"] ["chart"] (defScope st_arm_rows) := ⟨rfl, rfl, rfl, by decide +kernel, rfl, by decide +kernel, by decide +kernel⟩
def c1_arm_rows : SI := sComp (sRg1 (sCons (sV 1) sNil)) (gN 4) tYes' (sSl fSl (sV 2) (pSome (s2 fAdd (sC (.int 1)) (s2 fMul (sV 4) (sV 3)))) (pSome (s2 fAdd (sC (.int 1)) (s2 fMul (s2 fAdd (sV 4) (sC (.int 1))) (sV 3))))) [4]
def g_arm_rows : SS := (sSeq (sAsg (sV 0) (gT (gsCons (gN 1) (gsCons (gN 2) gsNil)) 2)) (sSeq (sAsg (sCall p_length_of [] (sCons (sV 0) sNil)) (gN 3)) (sSeq (sRet (sFr c1_arm_rows)) sNx)))
def p_arm_rows : List PyData → Option PyData := fun ds => if ds.length = 1 then bodyP g_arm_rows 5 ds else none
theorem ok_arm_rows {f : Addr} {fd : FuncData} (D : Dk K mg "arm_rows" st_arm_rows ["chart"] f fd) (B : Bt mg) {f_length_of : Addr} {fd_length_of : FuncData} (D_length_of : Dk K mg "length_of" st_length_of ["chart"] f_length_of fd_length_of) (G_length_of : FnOk P w K mg base CX0 1 f_length_of fd_length_of ["chart"] (spP K T p_length_of)) : FnOk P w K mg base CX0 2 f fd ["chart"] (spP K T p_arm_rows) :=
  fn_pure D.fn sc_arm_rows g_arm_rows (by decide) fun cdv A outer s H E H0 F0 io hr => (ess_cons (es_asg (fun h hg => ps_asg h hg) (eo_v 0 (pv 0)) (eg_t (egs_cons (eg_n 1 (pg_name (i := 1) sc_arm_rows.nd rfl (Or.inl rfl))) (egs_cons (eg_n 2 (pg_name (i := 2) sc_arm_rows.nd rfl (Or.inr rfl))) egs_nil (fun h h1 => pgs_cons h h1)) (fun h h1 => pgs_cons h h1)) (fun h => pg_tup (by rfl) h) rfl)) (ess_cons (es_asg (fun h hg => ps_asg h hg) (eo_call (fun h => pe_call G_length_of (hr.mono (by decide)) (by rfl) D_length_of.mg D_length_of.fn.kp D_length_of.b .nil pass0 h) (ea_cons (eo_v 0 (pv 0)) ea_nil) fun _ => .nil) (eg_n 3 (pg_name (i := 3) sc_arm_rows.nd rfl (Or.inr rfl)))) (ess_cons (es_ret (eo_fr (ef_comp (own := [("arm", 4)]) (fun wi hg ht he => pe_lc (own := [("arm", 4)]) rfl sc_arm_rows.nd wi (blkOk_by (N := ["chart", "arms", "cells", "length", "arm"]) (sc := defScope st_arm_rows) (by decide +kernel)) hg ht he) (ei_rg1 (fun h => pi_range1 (by rfl) B.n_range h) (ea_cons (eo_v 1 (pv 1)) ea_nil)) (by decide) (fun H0 F0 io s1 H1 C1 cl1 fp1 => (eg_n 4 (pg_name (i := 4) sc_arm_rows.nd rfl (Or.inl rfl)))) (fun H0 F0 io s1 H1 C1 cl1 fp1 => ets_nil) (fun H0 F0 io s1 H1 C1 cl1 fp1 => (eo_slice rfl (fun h hl hh => pe_slice sl_D h hl hh) (eo_v 2 (pv 2)) (ep_some (eo_op op_add3 l2_add3 eo_int (eo_op op_mulB l2_mul (eo_v 4 (pv 4)) (eo_v 3 (pv 3))))) (ep_some (eo_op op_add3 l2_add3 eo_int (eo_op op_mulB l2_mul (eo_op op_add3 l2_add3 (eo_v 4 (pv 4)) eo_int) (eo_v 3 (pv 3)))))))))) ess_nil)))
/-! ### orders -/
abbrev st_orders : Stmt := topS 30
theorem sc_orders : FnScope ["chart", "row"] ["chart"] (defScope st_orders) := ⟨rfl, rfl, rfl, by decide +kernel, rfl, by decide +kernel, by decide +kernel⟩
def c1_orders : SI := sComp (sSq (sCall p_arm_rows [] (sCons (sV 0) sNil))) (gN 1) tYes' (sCall p_lands_met [] (sCons (s2 fIx (s2 fIx (sV 0) (sC (.int 1))) (sC (.int 0))) (sCons (sV 1) sNil))) [1]
def g_orders : SS := (sSeq (sExp (sCall p_check_chart [] (sCons (sV 0) sNil))) (sSeq (sRet (sN fTupOf (sCons (sFr c1_orders) sNil))) sNx))
def p_orders : List PyData → Option PyData := fun ds => if ds.length = 1 then bodyP g_orders 2 ds else none
theorem ok_orders {f : Addr} {fd : FuncData} (D : Dk K mg "orders" st_orders ["chart"] f fd) (B : Bt mg) {f_check_chart : Addr} {fd_check_chart : FuncData} (D_check_chart : Dk K mg "check_chart" st_check_chart ["chart"] f_check_chart fd_check_chart) (G_check_chart : FnOk P w K mg base CX0 6 f_check_chart fd_check_chart ["chart"] (spP K T p_check_chart)) {f_arm_rows : Addr} {fd_arm_rows : FuncData} (D_arm_rows : Dk K mg "arm_rows" st_arm_rows ["chart"] f_arm_rows fd_arm_rows) (G_arm_rows : FnOk P w K mg base CX0 2 f_arm_rows fd_arm_rows ["chart"] (spP K T p_arm_rows)) {f_lands_met : Addr} {fd_lands_met : FuncData} (D_lands_met : Dk K mg "lands_met" st_lands_met ["hub", "row"] f_lands_met fd_lands_met) (G_lands_met : FnOk P w K mg base CX0 1 f_lands_met fd_lands_met ["hub", "row"] (spP K T p_lands_met)) : FnOk P w K mg base CX0 7 f fd ["chart"] (spP K T p_orders) :=
  fn_pure D.fn sc_orders g_orders (by decide) fun cdv A outer s H E H0 F0 io hr => (ess_cons (es_exp (eo_call (fun h => pe_call G_check_chart (hr.mono (by decide)) (by rfl) D_check_chart.mg D_check_chart.fn.kp D_check_chart.b .nil pass0 h) (ea_cons (eo_v 0 (pv 0)) ea_nil) fun _ => .nil)) (ess_cons (es_ret (eo_bn (fun h => pe_callTy call_tupF (by rfl) B.n_tuple (by decide +kernel) h) ln_tup (ea_cons (eo_fr (ef_comp (own := [("row", 1)]) (fun wi hg ht he => pe_lc (own := [("row", 1)]) rfl sc_orders.nd wi (blkOk_by (N := ["chart", "row"]) (sc := defScope st_orders) (by decide +kernel)) hg ht he) (ei_sq rfl (eo_call (fun h => pe_call G_arm_rows (hr.mono (by decide)) (by rfl) D_arm_rows.mg D_arm_rows.fn.kp D_arm_rows.b .nil pass0 h) (ea_cons (eo_v 0 (pv 0)) ea_nil) fun _ => .nil)) (by decide) (fun H0 F0 io s1 H1 C1 cl1 fp1 => (eg_n 1 (pg_name (i := 1) sc_orders.nd rfl (Or.inl rfl)))) (fun H0 F0 io s1 H1 C1 cl1 fp1 => ets_nil) (fun H0 F0 io s1 H1 C1 cl1 fp1 => (eo_call (fun h => pe_call G_lands_met (hr.mono (by decide)) (by rfl) D_lands_met.mg D_lands_met.fn.kp D_lands_met.b .nil pass0 h) (ea_cons (eo_ix ix_seq l2_ix (eo_ix ix_seq l2_ix (eo_v 0 (pv 0)) eo_int (fun _ _ => rfl)) eo_int (fun _ _ => rfl)) (ea_cons (eo_v 1 (pv 1)) ea_nil)) fun _ => .nil)))) ea_nil))) ess_nil))
/-! ### are_places -/
abbrev st_are_places : Stmt := topS 34
theorem sc_are_places : FnScope ["value", "length", "wanted", "spots", "order"] ["value", "length", "wanted"] (defScope st_are_places) := ⟨rfl, rfl, rfl, by decide +kernel, rfl, by decide +kernel, by decide +kernel⟩
def a1_are_places : SE := sAll (sSq (sV 0)) (gN 3) (sCall p_are_integers [] (sCons (sV 3) (sCons (sC (.int 0)) (sCons (s2 fSub (sV 1) (sC (.int 1))) sNil)))) [3]
def a2_are_places : SE := sAll (sSq (sV 0)) (gN 3) (s2 fEq (sV 3) (sN fTupOf (sCons (sFr (sOrI (sSrtSet (sV 3)) (sSrtSetP (sV 3)))) sNil))) [3]
def c1_are_places : SI := sComp (sZip (sCons (sV 2) (sCons (sV 0) sNil))) (gT (gsCons (gN 4) (gsCons (gN 3) gsNil)) 2) tYes' (s2 fEq (sN fLen (sCons (sV 3) sNil)) (sN fLen (sCons (sV 4) sNil))) [4, 3]
def g_are_places : SS := (sSeq (sIfS (tOr' (tNot' (sTr (sIsi "tuple" (sV 0)))) (toT (s2 fNe (sN fLen (sCons (sV 0) sNil)) (sN fLen (sCons (sV 2) sNil))))) (sSeq (sRet (sC (.bool false))) sNx) sNx) (sSeq (sIfS (tNot' (sTr a1_are_places)) (sSeq (sRet (sC (.bool false))) sNx) sNx) (sSeq (sIfS (tNot' (sTr a2_are_places)) (sSeq (sRet (sC (.bool false))) sNx) sNx) (sSeq (sRet (sN fAllL (sCons (sFr c1_are_places) sNil))) sNx))))
def p_are_places : List PyData → Option PyData := fun ds => if ds.length = 3 then bodyP g_are_places 5 ds else none
theorem ok_are_places {f : Addr} {fd : FuncData} {cA P0 : Addr} (D : Dg K mg "are_places" st_are_places ["value", "length", "wanted"] f fd cA) (B : Bt mg) (TB : TabB base mg cA P0) (hP : P0 ∈ T) {f_are_integers : Addr} {fd_are_integers : FuncData} {c_are_integers : Addr} (D_are_integers : Dg K mg "are_integers" st_are_integers ["value", "low", "high"] f_are_integers fd_are_integers c_are_integers) (G_are_integers : FnOk P w K mg base CX0 4 f_are_integers fd_are_integers ["value", "low", "high"] (spP K T p_are_integers)) : FnOk P w K mg base CX0 6 f fd ["value", "length", "wanted"] (spP K T p_are_places) :=
  D.pure sc_are_places g_are_places (by decide) fun A outer s H E H0 F0 io hr => (ess_cons (es_if (et_w (ew_or (et_not (et_tr (eo_isi rfl (by decide) (fun h => pe_callB call_isi (by rfl) B.n_isinstance PyProof.Rows.boot_isinstance (pa_cons h (pa_cons (pe_bltn (u := .type "tuple") (by rfl) B.n_tuple (by decide +kernel) rfl) pa_nil))) (eo_v 0 (pv 0))))) (ew_or1 (et_cmp (op_neD (hu64 hr)) l2_ne (eo_bn (fun h => pe_callB call_len_seq (by rfl) B.n_len PySem.boot_len h) ln_len (ea_cons (eo_v 0 (pv 0)) ea_nil)) (eo_bn (fun h => pe_callB call_len_seq (by rfl) B.n_len PySem.boot_len h) ln_len (ea_cons (eo_v 2 (pv 2)) ea_nil)) (nomark _))))) (ess_cons (es_ret eo_bl) ess_nil) ess_nil) (ess_cons (es_if (et_not (et_tr (eo_all (own := [("spots", 3)]) (k := 4) hP (fun wi hg he => pe_allG (own := [("spots", 3)]) (k := 4) rfl sc_are_places.nd hr (by rfl) B.n_all TB rfl ⟨blkOk_by (N := ["value", "length", "wanted", "spots", "order"]) (sc := defScope st_are_places) (by decide +kernel), by decide +kernel, by decide +kernel, rfl⟩ wi hg he) (ei_sq rfl (eo_v 0 (pv 0))) (by decide) (fun s1 H1 A1 C1 code1 fp1 => (eg_n 3 (pg_name (i := 3) sc_are_places.nd rfl (Or.inl rfl)))) (fun s1 H1 A1 C1 code1 fp1 HG => (eo_call (fun h => pe_call G_are_integers (HG.mono (by decide)) (by rfl) D_are_integers.mg D_are_integers.kp D_are_integers.b .nil pass0 h) (ea_cons (eo_v 3 (pv 3)) (ea_cons eo_int (ea_cons (eo_op op_sub l2_sub (eo_v 1 (pv 1)) eo_int) ea_nil))) fun _ => .nil))))) (ess_cons (es_ret eo_bl) ess_nil) ess_nil) (ess_cons (es_if (et_not (et_tr (eo_all (own := [("spots", 3)]) (k := 4) hP (fun wi hg he => pe_allG (own := [("spots", 3)]) (k := 4) rfl sc_are_places.nd hr (by rfl) B.n_all TB rfl ⟨blkOk_by (N := ["value", "length", "wanted", "spots", "order"]) (sc := defScope st_are_places) (by decide +kernel), by decide +kernel, by decide +kernel, rfl⟩ wi hg he) (ei_sq rfl (eo_v 0 (pv 0))) (by decide) (fun s1 H1 A1 C1 code1 fp1 => (eg_n 3 (pg_name (i := 3) sc_are_places.nd rfl (Or.inl rfl)))) (fun s1 H1 A1 C1 code1 fp1 HG => (eo_cmp (op_eqD (hu64 HG)) l2_eq (eo_v 3 (pv 3)) (eo_bn (fun h => pe_callTy call_tupF (by rfl) B.n_tuple (by decide +kernel) h) ln_tup (ea_cons (eo_fr (ef_or2 (ef_srtSet rfl (fun h => pe_srtSet (by rfl) B.n_sorted (by rfl) B.n_set h) (eo_v 3 (pv 3))) (ef_srtSetP rfl (fun h => pe_callB (cr_sortedT (by rfl)) (by rfl) B.n_sorted (by decide +kernel) (pa_cons (pe_callTy (cr_setOfT (by rfl) (hu64 HG)) (by rfl) B.n_set (by decide +kernel) (pa_cons h pa_nil)) pa_nil)) (eo_v 3 (pv 3))))) ea_nil)) (nomark _)))))) (ess_cons (es_ret eo_bl) ess_nil) ess_nil) (ess_cons (es_ret (eo_bn (fun h => pe_callB (cr_all (by rfl)) (by rfl) B.n_all (by decide +kernel) h) ln_allL (ea_cons (eo_fr (ef_comp (own := [("order", 4), ("spots", 3)]) (fun wi hg ht he => pe_lc (own := [("order", 4), ("spots", 3)]) rfl sc_are_places.nd wi (blkOk_by (N := ["value", "length", "wanted", "spots", "order"]) (sc := defScope st_are_places) (by decide +kernel)) hg ht he) (ei_zip rfl (fun h => ZIP.pi_zip (by rfl) B.n_zip h) (ea_cons (eo_v 2 (pv 2)) (ea_cons (eo_v 0 (pv 0)) ea_nil))) (by decide) (fun H0 F0 io s1 H1 C1 cl1 fp1 => (eg_t (egs_cons (eg_n 4 (pg_name (i := 4) sc_are_places.nd rfl (Or.inl rfl))) (egs_cons (eg_n 3 (pg_name (i := 3) sc_are_places.nd rfl (Or.inl rfl))) egs_nil (fun h h1 => pgs_cons h h1)) (fun h h1 => pgs_cons h h1)) (fun h => pg_tup (by rfl) h) rfl)) (fun H0 F0 io s1 H1 C1 cl1 fp1 => ets_nil) (fun H0 F0 io s1 H1 C1 cl1 fp1 => (eo_cmp (op_eqD (hu64 hr)) l2_eq (eo_bn (fun h => pe_callB call_len_seq (by rfl) B.n_len PySem.boot_len h) ln_len (ea_cons (eo_v 3 (pv 3)) ea_nil)) (eo_bn (fun h => pe_callB call_len_seq (by rfl) B.n_len PySem.boot_len h) ln_len (ea_cons (eo_v 4 (pv 4)) ea_nil)) (nomark _))))) ea_nil))) ess_nil))))
/-! ### placed_row -/
abbrev st_placed_row : Stmt := topS 35
theorem sc_placed_row : FnScope ["length", "hub", "order", "spots", "row", "land", "place"] ["length", "hub", "order", "spots"] (defScope st_placed_row) := ⟨rfl, rfl, rfl, by decide +kernel, rfl, by decide +kernel, by decide +kernel⟩
def b1_placed_row : SS := (sSeq (sIfS (toT (s2 fIn (sV 6) (sV 3))) (sSeq (sAsg (s2 fIx (sV 2) (sM1T fIdxT (sV 3) (sV 6))) (gN 5)) sNx) sNx) (sSeq (sApp 4 (sV 5)) sNx))
def l1_placed_row : SS := sFor (gN 6) (sRg1 (sCons (sV 0) sNil)) b1_placed_row
def g_placed_row : SS := (sSeq (sOwn 4 (sLst sNil)) (sSeq (sAsg (sV 1) (gN 5)) (sSeq l1_placed_row (sSeq (sRet (sN fTupOf (sCons (sB 4) sNil))) sNx))))
def p_placed_row : List PyData → Option PyData := fun ds => if ds.length = 4 then bodyP g_placed_row 7 ds else none
theorem ok_placed_row {f : Addr} {fd : FuncData} (D : Dk K mg "placed_row" st_placed_row ["length", "hub", "order", "spots"] f fd) (B : Bt mg) : FnOk P w K mg base CX0 1 f fd ["length", "hub", "order", "spots"] (spP K T p_placed_row) :=
  fn_pure D.fn sc_placed_row g_placed_row (by decide) fun cdv A outer s H E H0 F0 io hr => (ess_cons (es_own 4 (fun h => ps_set (i := 4) sc_placed_row.nd rfl (Or.inl rfl) h) (ef_lst ea_nil)) (ess_cons (es_asg (fun h hg => ps_asg h hg) (eo_v 1 (pv 1)) (eg_n 5 (pg_name (i := 5) sc_placed_row.nd rfl (Or.inl rfl)))) (ess_cons (es_for (fun wi hg hb => ps_for PassesOwn.never rfl wi hg hb) (ei_rg1 (fun h => pi_range1 (by rfl) B.n_range h) (ea_cons (eo_v 0 (pv 0)) ea_nil)) (eg_n 6 (pg_name (i := 6) sc_placed_row.nd rfl (Or.inl rfl))) (ess_cons (es_if (et_cmp (op_inA (hu65 hr)) l2_in (eo_v 6 (pv 6)) (eo_v 3 (pv 3)) (by with_unfolding_all rfl)) (ess_cons (es_asg (fun h hg => ps_asg h hg) (eo_ix ix_seq l2_ix (eo_v 2 (pv 2)) (eo_m1T rfl (fun h h1 => pe_tm PySem.F.slot_tuple_index PySem.F.type_tuple_index mt_tindex h (pa_cons h1 pa_nil)) l1_idxT (eo_v 3 (pv 3)) (eo_v 6 (pv 6))) (fun _ _ => rfl)) (eg_n 5 (pg_name (i := 5) sc_placed_row.nd rfl (Or.inl rfl)))) ess_nil) ess_nil) (ess_cons (es_app 4 rfl (fun h => ps_expr (pe_bm PySem.F.plainAttrs_list PySem.F.slot_list_append PySem.F.type_list_append mt_append (pv 4) (pa_cons h pa_nil))) (eo_v 5 (pv 5))) ess_nil))) (ess_cons (es_ret (eo_bn (fun h => pe_callTy call_tupF (by rfl) B.n_tuple (by decide +kernel) h) ln_tup (ea_cons (eo_b 4 (pv 4)) ea_nil))) ess_nil))))
/-! ### from_orders -/
abbrev st_from_orders : Stmt := topS 32
theorem sc_from_orders : FnScope ["length", "hub", "orders", "places", "rows", "chart", "unmet", "order", "spots", "row"] ["length", "hub", "orders", "places"] (defScope st_from_orders) := ⟨rfl, rfl, rfl, by decide +kernel, rfl, by decide +kernel, by decide +kernel⟩
def c1_from_orders : SI := sComp (sZip (sCons (sV 2) (sCons (sV 3) sNil))) (gT (gsCons (gN 7) (gsCons (gN 8) gsNil)) 2) tYes' (sCall p_placed_row [] (sCons (sV 0) (sCons (sV 1) (sCons (sV 7) (sCons (sV 8) sNil))))) [7, 8]
def c2_from_orders : SI := sComp (sZip (sCons (sV 2) (sCons (sV 4) sNil))) (gT (gsCons (gN 7) (gsCons (gN 9) gsNil)) 2) (toT (s2 fNe (sCall p_lands_met [] (sCons (sV 1) (sCons (sV 9) sNil))) (sV 7))) (sV 7) [7, 9]
def g_from_orders : SS := (sSeq (sExp (sCall p_check_length [.int (4)] (sCons (sV 0) sNil))) (sSeq (sExp (sCall p_check_hub [] (sCons (sV 1) sNil))) (sSeq (sIfS (tNot' (sTr (sCall p_are_orders [] (sCons (sV 2) sNil)))) (sSeq sNever sNx) sNx) (sSeq (sIfS (tNot' (sTr (sCall p_are_places [] (sCons (sV 3) (sCons (sV 0) (sCons (sV 2) sNil)))))) (sSeq sNever sNx) sNx) (sSeq (sAsg (sFr c1_from_orders) (gN 4)) (sSeq (sAsg (sCall p_joined_map [] (sCons (sV 1) (sCons (sV 4) sNil))) (gN 5)) (sSeq (sAsg (sFr c2_from_orders) (gN 6)) (sSeq (sRet (sIf (tAnd' (sTr (sCall p_is_chart [] (sCons (sV 5) sNil))) (tNot' (sTr (sV 6)))) (sV 5) (sC .none))) sNx))))))))
def p_from_orders : List PyData → Option PyData := fun ds => if ds.length = 4 then bodyP g_from_orders 10 ds else none
theorem ok_from_orders {f : Addr} {fd : FuncData} (D : Dk K mg "from_orders" st_from_orders ["length", "hub", "orders", "places"] f fd) (B : Bt mg) {f_check_length : Addr} {fd_check_length : FuncData} (D_check_length : Dd K mg "check_length" st_check_length ["length", "most"] f_check_length fd_check_length [V.int (4)]) (G_check_length : FnOk P w K mg base CX0 3 f_check_length fd_check_length ["length", "most"] (spP K T p_check_length)) {f_check_hub : Addr} {fd_check_hub : FuncData} (D_check_hub : Dk K mg "check_hub" st_check_hub ["hub"] f_check_hub fd_check_hub) (G_check_hub : FnOk P w K mg base CX0 3 f_check_hub fd_check_hub ["hub"] (spP K T p_check_hub)) {f_are_orders : Addr} {fd_are_orders : FuncData} {c_are_orders : Addr} (D_are_orders : Dg K mg "are_orders" st_are_orders ["value"] f_are_orders fd_are_orders c_are_orders) (G_are_orders : FnOk P w K mg base CX0 6 f_are_orders fd_are_orders ["value"] (spP K T p_are_orders)) {f_are_places : Addr} {fd_are_places : FuncData} {c_are_places : Addr} (D_are_places : Dg K mg "are_places" st_are_places ["value", "length", "wanted"] f_are_places fd_are_places c_are_places) (G_are_places : FnOk P w K mg base CX0 6 f_are_places fd_are_places ["value", "length", "wanted"] (spP K T p_are_places)) {f_placed_row : Addr} {fd_placed_row : FuncData} (D_placed_row : Dk K mg "placed_row" st_placed_row ["length", "hub", "order", "spots"] f_placed_row fd_placed_row) (G_placed_row : FnOk P w K mg base CX0 1 f_placed_row fd_placed_row ["length", "hub", "order", "spots"] (spP K T p_placed_row)) {f_joined_map : Addr} {fd_joined_map : FuncData} (D_joined_map : Dk K mg "joined_map" st_joined_map ["hub", "rows"] f_joined_map fd_joined_map) (G_joined_map : FnOk P w K mg base CX0 1 f_joined_map fd_joined_map ["hub", "rows"] (spP K T p_joined_map)) {f_lands_met : Addr} {fd_lands_met : FuncData} (D_lands_met : Dk K mg "lands_met" st_lands_met ["hub", "row"] f_lands_met fd_lands_met) (G_lands_met : FnOk P w K mg base CX0 1 f_lands_met fd_lands_met ["hub", "row"] (spP K T p_lands_met)) {f_is_chart : Addr} {fd_is_chart : FuncData} (D_is_chart : Dk K mg "is_chart" st_is_chart ["value"] f_is_chart fd_is_chart) (G_is_chart : FnOk P w K mg base CX0 5 f_is_chart fd_is_chart ["value"] (spP K T p_is_chart)) : FnOk P w K mg base CX0 7 f fd ["length", "hub", "orders", "places"] (spP K T p_from_orders) :=
  fn_pure D.fn sc_from_orders g_from_orders (by decide) fun cdv A outer s H E H0 F0 io hr => (ess_cons (es_exp (eo_call (fun h => pe_call G_check_length (hr.mono (by decide)) (by rfl) D_check_length.mg D_check_length.kp D_check_length.bd.choose_spec.2 D_check_length.bd.choose_spec.1 pass0 h) (ea_cons (eo_v 0 (pv 0)) ea_nil) fun _ => (.cons (.int (4)) .nil))) (ess_cons (es_exp (eo_call (fun h => pe_call G_check_hub (hr.mono (by decide)) (by rfl) D_check_hub.mg D_check_hub.fn.kp D_check_hub.b .nil pass0 h) (ea_cons (eo_v 1 (pv 1)) ea_nil) fun _ => .nil)) (ess_cons (es_if (et_not (et_tr (eo_call (fun h => pe_call G_are_orders (hr.mono (by decide)) (by rfl) D_are_orders.mg D_are_orders.kp D_are_orders.b .nil pass0 h) (ea_cons (eo_v 2 (pv 2)) ea_nil) fun _ => .nil))) (ess_cons es_never ess_nil) ess_nil) (ess_cons (es_if (et_not (et_tr (eo_call (fun h => pe_call G_are_places (hr.mono (by decide)) (by rfl) D_are_places.mg D_are_places.kp D_are_places.b .nil pass0 h) (ea_cons (eo_v 3 (pv 3)) (ea_cons (eo_v 0 (pv 0)) (ea_cons (eo_v 2 (pv 2)) ea_nil))) fun _ => .nil))) (ess_cons es_never ess_nil) ess_nil) (ess_cons (es_lc frS (i := 4) (own := [("order", 7), ("spots", 8)]) (fun wi hg ht he => ps_setLc (i := 4) (own := [("order", 7), ("spots", 8)]) rfl sc_from_orders.nd rfl rfl (sw_true rfl rfl rfl (by decide +kernel)) wi (blkOk_by (N := ["length", "hub", "orders", "places", "rows", "chart", "unmet", "order", "spots", "row"]) (sc := defScope st_from_orders) (by decide +kernel)) hg ht he) (ei_zip rfl (fun h => ZIP.pi_zip (by rfl) B.n_zip h) (ea_cons (eo_v 2 (pv 2)) (ea_cons (eo_v 3 (pv 3)) ea_nil))) (by decide) (fun H0 F0 io s1 H1 C1 cl1 fp1 => (eg_t (egs_cons (eg_n 7 (pg_name (i := 7) sc_from_orders.nd rfl (Or.inl rfl))) (egs_cons (eg_n 8 (pg_name (i := 8) sc_from_orders.nd rfl (Or.inl rfl))) egs_nil (fun h h1 => pgs_cons h h1)) (fun h h1 => pgs_cons h h1)) (fun h => pg_tup (by rfl) h) rfl)) (fun H0 F0 io s1 H1 C1 cl1 fp1 => ets_nil) (fun H0 F0 io s1 H1 C1 cl1 fp1 => (eo_call (fun h => pe_call G_placed_row (hr.mono (by decide)) (by rfl) D_placed_row.mg D_placed_row.fn.kp D_placed_row.b .nil pass0 h) (ea_cons (eo_v 0 (pv 0)) (ea_cons (eo_v 1 (pv 1)) (ea_cons (eo_v 7 (pv 7)) (ea_cons (eo_v 8 (pv 8)) ea_nil)))) fun _ => .nil))) (ess_cons (es_asg (fun h hg => ps_asg h hg) (eo_call (fun h => pe_call G_joined_map (hr.mono (by decide)) (by rfl) D_joined_map.mg D_joined_map.fn.kp D_joined_map.b .nil pass0 h) (ea_cons (eo_v 1 (pv 1)) (ea_cons (eo_v 4 (pv 4)) ea_nil)) fun _ => .nil) (eg_n 5 (pg_name (i := 5) sc_from_orders.nd rfl (Or.inl rfl)))) (ess_cons (es_lc frS (i := 6) (own := [("order", 7), ("row", 9)]) (fun wi hg ht he => ps_setLc (i := 6) (own := [("order", 7), ("row", 9)]) rfl sc_from_orders.nd rfl rfl (sw_true rfl rfl rfl (by decide +kernel)) wi (blkOk_by (N := ["length", "hub", "orders", "places", "rows", "chart", "unmet", "order", "spots", "row"]) (sc := defScope st_from_orders) (by decide +kernel)) hg ht he) (ei_zip rfl (fun h => ZIP.pi_zip (by rfl) B.n_zip h) (ea_cons (eo_v 2 (pv 2)) (ea_cons (eo_v 4 (pv 4)) ea_nil))) (by decide) (fun H0 F0 io s1 H1 C1 cl1 fp1 => (eg_t (egs_cons (eg_n 7 (pg_name (i := 7) sc_from_orders.nd rfl (Or.inl rfl))) (egs_cons (eg_n 9 (pg_name (i := 9) sc_from_orders.nd rfl (Or.inl rfl))) egs_nil (fun h h1 => pgs_cons h h1)) (fun h h1 => pgs_cons h h1)) (fun h => pg_tup (by rfl) h) rfl)) (fun H0 F0 io s1 H1 C1 cl1 fp1 => (ets_one (et_cmp (op_neD (hu64 hr)) l2_ne (eo_call (fun h => pe_call G_lands_met (hr.mono (by decide)) (by rfl) D_lands_met.mg D_lands_met.fn.kp D_lands_met.b .nil pass0 h) (ea_cons (eo_v 1 (pv 1)) (ea_cons (eo_v 9 (pv 9)) ea_nil)) fun _ => .nil) (eo_v 7 (pv 7)) (nomark _)))) (fun H0 F0 io s1 H1 C1 cl1 fp1 => (eo_v 7 (pv 7)))) (ess_cons (es_ret (eo_if (et_w (ew_and (et_tr (eo_call (fun h => pe_call G_is_chart (hr.mono (by decide)) (by rfl) D_is_chart.mg D_is_chart.fn.kp D_is_chart.b .nil pass0 h) (ea_cons (eo_v 5 (pv 5)) ea_nil) fun _ => .nil)) (ew_and1 (et_not (et_tr (eo_v 6 (pv 6))))))) (eo_v 5 (pv 5)) eo_non)) ess_nil))))))))
/-! ### _law_pick -/
abbrev st__law_pick : Stmt := topS 57
theorem sc__law_pick : FnScope ["row", "things"] ["row", "things"] (defScope st__law_pick) := ⟨rfl, rfl, rfl, by decide +kernel, rfl, by decide +kernel, by decide +kernel⟩
def g__law_pick : SS := (sSeq (sRet (s2 fIx (sV 1) (sCallI p__law_taken (sCons (sB 0) (sCons (sN fLen (sCons (sV 1) sNil)) sNil))))) sNx)
def p__law_pick : List PyData → List PyData → Option (PyData × List PyData) := fun rs ds => if ds.length + 1 = 2 then bodyI g__law_pick 2 rs ds else none
theorem ok__law_pick {f : Addr} {fd : FuncData} (D : Dk K mg "_law_pick" st__law_pick ["row", "things"] f fd) (B : Bt mg) {f__law_taken : Addr} {fd__law_taken : FuncData} (D__law_taken : Dk K mg "_law_taken" st__law_taken ["row", "many"] f__law_taken fd__law_taken) (G__law_taken : FnOk P w K mg base CX0 1 f__law_taken fd__law_taken ["row", "many"] (spI K T p__law_taken)) : FnOk P w K mg base CX0 2 f fd ["row", "things"] (spI K T p__law_pick) :=
  fn_io D.fn sc__law_pick g__law_pick (by decide) fun cdv A outer s H E H0 F0 io hr => (ess_cons (es_ret (eo_ix ix_seq l2_ix (eo_v 1 (pv 1)) (eo_callI (fun h => pe_call G__law_taken (hr.mono (by decide)) (by rfl) D__law_taken.mg D__law_taken.fn.kp D__law_taken.b .nil pass0 h) (ea_cons (eo_b 0 (pv 0)) (ea_cons (eo_bn (fun h => pe_callB call_len_seq (by rfl) B.n_len PySem.boot_len h) ln_len (ea_cons (eo_v 1 (pv 1)) ea_nil)) ea_nil))) (fun _ _ => rfl))) ess_nil)
/-! ### can_lose -/
abbrev st_can_lose : Stmt := topS 37
theorem sc_can_lose : FnScope ["loser", "near"] ["loser", "near"] (defScope st_can_lose) := ⟨rfl, rfl, rfl, by decide +kernel, rfl, by decide +kernel, by decide +kernel⟩
def g_can_lose : SS := (sSeq (sRet (s2 fEq (sOrE (sM1 fCount (sV 1) (sV 0)) (sM1T fCountT (sV 1) (sV 0))) (sC (.int 1)))) sNx)
def p_can_lose : List PyData → Option PyData := fun ds => if ds.length = 2 then bodyP g_can_lose 2 ds else none
theorem ok_can_lose {f : Addr} {fd : FuncData} (D : Dk K mg "can_lose" st_can_lose ["loser", "near"] f fd) (B : Bt mg) : FnOk P w K mg base CX0 1 f fd ["loser", "near"] (spP K T p_can_lose) :=
  fn_pure D.fn sc_can_lose g_can_lose (by decide) fun cdv A outer s H E H0 F0 io hr => (ess_cons (es_ret (eo_cmp (op_eqD (hu64 hr)) l2_eq (eo_or2 (eo_m1 rfl (fun h h1 => pe_bm PySem.F.plainAttrs_list PySem.F.slot_list_count PySem.F.type_list_count mt_lcount h (pa_cons h1 pa_nil)) l1_count (eo_v 1 (pv 1)) (eo_v 0 (pv 0))) (eo_m1T rfl (fun h h1 => pe_tm PySem.F.slot_tuple_count PySem.F.type_tuple_count mt_tcount h (pa_cons h1 pa_nil)) l1_countT (eo_v 1 (pv 1)) (eo_v 0 (pv 0)))) eo_int (nomark _))) ess_nil)
/-! ### ready_takings -/
abbrev st_ready_takings : Stmt := topS 39
theorem sc_ready_takings : FnScope ["table", "cells", "ready", "cell", "places", "near", "loser", "place", "land"] ["table", "cells"] (defScope st_ready_takings) := ⟨rfl, rfl, rfl, by decide +kernel, rfl, by decide +kernel, by decide +kernel⟩
def c1_ready_takings : SI := sComp (sSq (sV 4)) (gN 7) tYes' (s2 fIx (sV 1) (sV 7)) [7]
def c2_ready_takings : SI := sComp (sSq (sV 5)) (gN 8) (toT (s2 fNe (sV 8) (sV 6))) (sTup (sCons (sV 8) (sCons (sV 3) sNil))) [8]
def b1_ready_takings : SS := (sSeq (sAsg (sFr c1_ready_takings) (gN 5)) (sSeq (sAsg (s2 fIx (sV 1) (sV 3)) (gN 6)) (sSeq (sIfS (sTr (sCall p_can_lose [] (sCons (sV 6) (sCons (sV 5) sNil)))) (sSeq (sExt 2 c2_ready_takings) sNx) sNx) sNx)))
def l1_ready_takings : SS := sFor (gT (gsCons (gN 3) (gsCons (gN 4) gsNil)) 2) (sEnum (sCons (sV 0) sNil)) b1_ready_takings
def g_ready_takings : SS := (sSeq (sOwn 2 (sLst sNil)) (sSeq l1_ready_takings (sSeq (sRet (sFr (sNF fSorted (sCons (sB 2) sNil)))) sNx)))
def p_ready_takings : List PyData → Option PyData := fun ds => if ds.length = 2 then bodyP g_ready_takings 9 ds else none
theorem ok_ready_takings {f : Addr} {fd : FuncData} (D : Dk K mg "ready_takings" st_ready_takings ["table", "cells"] f fd) (B : Bt mg) {f_can_lose : Addr} {fd_can_lose : FuncData} (D_can_lose : Dk K mg "can_lose" st_can_lose ["loser", "near"] f_can_lose fd_can_lose) (G_can_lose : FnOk P w K mg base CX0 1 f_can_lose fd_can_lose ["loser", "near"] (spP K T p_can_lose)) : FnOk P w K mg base CX0 2 f fd ["table", "cells"] (spP K T p_ready_takings) :=
  fn_pure D.fn sc_ready_takings g_ready_takings (by decide) fun cdv A outer s H E H0 F0 io hr => (ess_cons (es_own 2 (fun h => ps_set (i := 2) sc_ready_takings.nd rfl (Or.inl rfl) h) (ef_lst ea_nil)) (ess_cons (es_for (fun wi hg hb => ps_for PassesOwn.never rfl wi hg hb) (ei_enum rfl (fun h => ENT.pi_enumL (by rfl) B.n_enumerate h) (fun h => ENT.pi_enumT (by rfl) B.n_enumerate h) (ea_cons (eo_v 0 (pv 0)) ea_nil)) (eg_t (egs_cons (eg_n 3 (pg_name (i := 3) sc_ready_takings.nd rfl (Or.inr rfl))) (egs_cons (eg_n 4 (pg_name (i := 4) sc_ready_takings.nd rfl (Or.inl rfl))) egs_nil (fun h h1 => pgs_cons h h1)) (fun h h1 => pgs_cons h h1)) (fun h => pg_tup (by rfl) h) rfl) (ess_cons (es_lc frS (i := 5) (own := [("place", 7)]) (fun wi hg ht he => ps_setLc (i := 5) (own := [("place", 7)]) rfl sc_ready_takings.nd rfl rfl (sw_true rfl rfl rfl (by decide +kernel)) wi (blkOk_by (N := ["table", "cells", "ready", "cell", "places", "near", "loser", "place", "land"]) (sc := defScope st_ready_takings) (by decide +kernel)) hg ht he) (ei_sq rfl (eo_v 4 (pv 4))) (by decide) (fun H0 F0 io s1 H1 C1 cl1 fp1 => (eg_n 7 (pg_name (i := 7) sc_ready_takings.nd rfl (Or.inl rfl)))) (fun H0 F0 io s1 H1 C1 cl1 fp1 => ets_nil) (fun H0 F0 io s1 H1 C1 cl1 fp1 => (eo_ix ix_seq l2_ix (eo_v 1 (pv 1)) (eo_v 7 (pv 7)) (fun _ _ => rfl)))) (ess_cons (es_asg (fun h hg => ps_asg h hg) (eo_ix ix_seq l2_ix (eo_v 1 (pv 1)) (eo_v 3 (pv 3)) (fun _ _ => rfl)) (eg_n 6 (pg_name (i := 6) sc_ready_takings.nd rfl (Or.inr rfl)))) (ess_cons (es_if (et_tr (eo_call (fun h => pe_call G_can_lose (hr.mono (by decide)) (by rfl) D_can_lose.mg D_can_lose.fn.kp D_can_lose.b .nil pass0 h) (ea_cons (eo_v 6 (pv 6)) (ea_cons (eo_v 5 (pv 5)) ea_nil)) fun _ => .nil)) (ess_cons (es_ext 2 (fun h => ps_expr (pe_bm PySem.F.plainAttrs_list PySem.F.slot_list_extend PySem.F.type_list_extend mt_extend (pv 2) (pa_cons h pa_nil))) (ef_comp (own := [("land", 8)]) (fun wi hg ht he => pe_lc (own := [("land", 8)]) rfl sc_ready_takings.nd wi (blkOk_by (N := ["table", "cells", "ready", "cell", "places", "near", "loser", "place", "land"]) (sc := defScope st_ready_takings) (by decide +kernel)) hg ht he) (ei_sq rfl (eo_v 5 (pv 5))) (by decide) (fun H0 F0 io s1 H1 C1 cl1 fp1 => (eg_n 8 (pg_name (i := 8) sc_ready_takings.nd rfl (Or.inl rfl)))) (fun H0 F0 io s1 H1 C1 cl1 fp1 => (ets_one (et_cmp (op_neD (hu64 hr)) l2_ne (eo_v 8 (pv 8)) (eo_v 6 (pv 6)) (nomark _)))) (fun H0 F0 io s1 H1 C1 cl1 fp1 => (eo_tup (ea_cons (eo_v 8 (pv 8)) (ea_cons (eo_v 3 (pv 3)) ea_nil)))))) ess_nil) ess_nil) ess_nil)))) (ess_cons (es_ret (eo_fr (ef_bn (fun h => pe_callB (cr_sortD (hu64 hr)) (by rfl) B.n_sorted (by decide +kernel) h) lf_sorted (ea_cons (eo_b 2 (pv 2)) ea_nil)))) ess_nil)))
/-! ### touching_cells -/
abbrev st_touching_cells : Stmt := topS 23
theorem sc_touching_cells : FnScope ["arms", "length", "cell", "inner", "arm"] ["arms", "length", "cell"] (defScope st_touching_cells) := ⟨rfl, rfl, rfl, by decide +kernel, rfl, by decide +kernel, by decide +kernel⟩
def c1_touching_cells : SI := sComp (sRg1 (sCons (sV 0) sNil)) (gN 4) tYes' (s2 fAdd (sC (.int 1)) (s2 fMul (sV 4) (sV 1))) [4]
def g_touching_cells : SS := (sSeq (sIfS (toT (s2 fEq (sV 2) (sC (.int 0)))) (sSeq (sRet (sN fTupOf (sCons (sFr c1_touching_cells) sNil))) sNx) sNx) (sSeq (sAsg (sCall p_inner_cell [] (sCons (sV 1) (sCons (sV 2) sNil))) (gN 3)) (sSeq (sIfS (toT (s2 fEq (s2 fMod (sV 2) (sV 1)) (sC (.int 0)))) (sSeq (sRet (sTup (sCons (sV 3) sNil))) sNx) sNx) (sSeq (sRet (sTup (sCons (sV 3) (sCons (s2 fAdd (sV 2) (sC (.int 1))) sNil)))) sNx))))
def p_touching_cells : List PyData → Option PyData := fun ds => if ds.length = 3 then bodyP g_touching_cells 5 ds else none
theorem ok_touching_cells {f : Addr} {fd : FuncData} (D : Dk K mg "touching_cells" st_touching_cells ["arms", "length", "cell"] f fd) (B : Bt mg) {f_inner_cell : Addr} {fd_inner_cell : FuncData} (D_inner_cell : Dk K mg "inner_cell" st_inner_cell ["length", "cell"] f_inner_cell fd_inner_cell) (G_inner_cell : FnOk P w K mg base CX0 1 f_inner_cell fd_inner_cell ["length", "cell"] (spP K T p_inner_cell)) : FnOk P w K mg base CX0 2 f fd ["arms", "length", "cell"] (spP K T p_touching_cells) :=
  fn_pure D.fn sc_touching_cells g_touching_cells (by decide) fun cdv A outer s H E H0 F0 io hr => (ess_cons (es_if (et_cmp (op_eqD (hu64 hr)) l2_eq (eo_v 2 (pv 2)) eo_int (nomark _)) (ess_cons (es_ret (eo_bn (fun h => pe_callTy call_tupF (by rfl) B.n_tuple (by decide +kernel) h) ln_tup (ea_cons (eo_fr (ef_comp (own := [("arm", 4)]) (fun wi hg ht he => pe_lc (own := [("arm", 4)]) rfl sc_touching_cells.nd wi (blkOk_by (N := ["arms", "length", "cell", "inner", "arm"]) (sc := defScope st_touching_cells) (by decide +kernel)) hg ht he) (ei_rg1 (fun h => pi_range1 (by rfl) B.n_range h) (ea_cons (eo_v 0 (pv 0)) ea_nil)) (by decide) (fun H0 F0 io s1 H1 C1 cl1 fp1 => (eg_n 4 (pg_name (i := 4) sc_touching_cells.nd rfl (Or.inl rfl)))) (fun H0 F0 io s1 H1 C1 cl1 fp1 => ets_nil) (fun H0 F0 io s1 H1 C1 cl1 fp1 => (eo_op op_add3 l2_add3 eo_int (eo_op op_mulB l2_mul (eo_v 4 (pv 4)) (eo_v 1 (pv 1))))))) ea_nil))) ess_nil) ess_nil) (ess_cons (es_asg (fun h hg => ps_asg h hg) (eo_call (fun h => pe_call G_inner_cell (hr.mono (by decide)) (by rfl) D_inner_cell.mg D_inner_cell.fn.kp D_inner_cell.b .nil pass0 h) (ea_cons (eo_v 1 (pv 1)) (ea_cons (eo_v 2 (pv 2)) ea_nil)) fun _ => .nil) (eg_n 3 (pg_name (i := 3) sc_touching_cells.nd rfl (Or.inl rfl)))) (ess_cons (es_if (et_cmp (op_eqD (hu64 hr)) l2_eq (eo_op op_mod l2_mod (eo_v 2 (pv 2)) (eo_v 1 (pv 1))) eo_int (nomark _)) (ess_cons (es_ret (eo_tup (ea_cons (eo_v 3 (pv 3)) ea_nil))) ess_nil) ess_nil) (ess_cons (es_ret (eo_tup (ea_cons (eo_v 3 (pv 3)) (ea_cons (eo_op op_add3 l2_add3 (eo_v 2 (pv 2)) eo_int) ea_nil)))) ess_nil))))
/-! ### touch_table -/
abbrev st_touch_table : Stmt := topS 24
theorem sc_touch_table : FnScope ["chart", "arms", "cells", "length", "cell"] ["chart"] (defScope st_touch_table) := ⟨rfl, rfl, rfl, by decide +kernel, rfl, by decide +kernel, by decide +kernel⟩
def c1_touch_table : SI := sComp (sRg1 (sCons (sN fLen (sCons (sV 2) sNil)) sNil)) (gN 4) tYes' (sCall p_touching_cells [] (sCons (sV 1) (sCons (sV 3) (sCons (sV 4) sNil)))) [4]
def g_touch_table : SS := (sSeq (sAsg (sV 0) (gT (gsCons (gN 1) (gsCons (gN 2) gsNil)) 2)) (sSeq (sAsg (sCall p_length_of [] (sCons (sV 0) sNil)) (gN 3)) (sSeq (sRet (sFr c1_touch_table)) sNx)))
def p_touch_table : List PyData → Option PyData := fun ds => if ds.length = 1 then bodyP g_touch_table 5 ds else none
theorem ok_touch_table {f : Addr} {fd : FuncData} (D : Dk K mg "touch_table" st_touch_table ["chart"] f fd) (B : Bt mg) {f_length_of : Addr} {fd_length_of : FuncData} (D_length_of : Dk K mg "length_of" st_length_of ["chart"] f_length_of fd_length_of) (G_length_of : FnOk P w K mg base CX0 1 f_length_of fd_length_of ["chart"] (spP K T p_length_of)) {f_touching_cells : Addr} {fd_touching_cells : FuncData} (D_touching_cells : Dk K mg "touching_cells" st_touching_cells ["arms", "length", "cell"] f_touching_cells fd_touching_cells) (G_touching_cells : FnOk P w K mg base CX0 2 f_touching_cells fd_touching_cells ["arms", "length", "cell"] (spP K T p_touching_cells)) : FnOk P w K mg base CX0 3 f fd ["chart"] (spP K T p_touch_table) :=
  fn_pure D.fn sc_touch_table g_touch_table (by decide) fun cdv A outer s H E H0 F0 io hr => (ess_cons (es_asg (fun h hg => ps_asg h hg) (eo_v 0 (pv 0)) (eg_t (egs_cons (eg_n 1 (pg_name (i := 1) sc_touch_table.nd rfl (Or.inr rfl))) (egs_cons (eg_n 2 (pg_name (i := 2) sc_touch_table.nd rfl (Or.inl rfl))) egs_nil (fun h h1 => pgs_cons h h1)) (fun h h1 => pgs_cons h h1)) (fun h => pg_tup (by rfl) h) rfl)) (ess_cons (es_asg (fun h hg => ps_asg h hg) (eo_call (fun h => pe_call G_length_of (hr.mono (by decide)) (by rfl) D_length_of.mg D_length_of.fn.kp D_length_of.b .nil pass0 h) (ea_cons (eo_v 0 (pv 0)) ea_nil) fun _ => .nil) (eg_n 3 (pg_name (i := 3) sc_touch_table.nd rfl (Or.inr rfl)))) (ess_cons (es_ret (eo_fr (ef_comp (own := [("cell", 4)]) (fun wi hg ht he => pe_lc (own := [("cell", 4)]) rfl sc_touch_table.nd wi (blkOk_by (N := ["chart", "arms", "cells", "length", "cell"]) (sc := defScope st_touch_table) (by decide +kernel)) hg ht he) (ei_rg1 (fun h => pi_range1 (by rfl) B.n_range h) (ea_cons (eo_bn (fun h => pe_callB call_len_seq (by rfl) B.n_len PySem.boot_len h) ln_len (ea_cons (eo_v 2 (pv 2)) ea_nil)) ea_nil)) (by decide) (fun H0 F0 io s1 H1 C1 cl1 fp1 => (eg_n 4 (pg_name (i := 4) sc_touch_table.nd rfl (Or.inl rfl)))) (fun H0 F0 io s1 H1 C1 cl1 fp1 => ets_nil) (fun H0 F0 io s1 H1 C1 cl1 fp1 => (eo_call (fun h => pe_call G_touching_cells (hr.mono (by decide)) (by rfl) D_touching_cells.mg D_touching_cells.fn.kp D_touching_cells.b .nil pass0 h) (ea_cons (eo_v 1 (pv 1)) (ea_cons (eo_v 3 (pv 3)) (ea_cons (eo_v 4 (pv 4)) ea_nil))) fun _ => .nil))))) ess_nil)))
/-! ### takings -/
abbrev st_takings : Stmt := topS 38
theorem sc_takings : FnScope ["chart"] ["chart"] (defScope st_takings) := ⟨rfl, rfl, rfl, by decide +kernel, rfl, by decide +kernel, by decide +kernel⟩
def g_takings : SS := (sSeq (sExp (sCall p_check_chart [] (sCons (sV 0) sNil))) (sSeq (sRet (sN fTupOf (sCons (sCall p_ready_takings [] (sCons (sCall p_touch_table [] (sCons (sV 0) sNil)) (sCons (s2 fIx (sV 0) (sC (.int 1))) sNil))) sNil))) sNx))
def p_takings : List PyData → Option PyData := fun ds => if ds.length = 1 then bodyP g_takings 1 ds else none
theorem ok_takings {f : Addr} {fd : FuncData} (D : Dk K mg "takings" st_takings ["chart"] f fd) (B : Bt mg) {f_check_chart : Addr} {fd_check_chart : FuncData} (D_check_chart : Dk K mg "check_chart" st_check_chart ["chart"] f_check_chart fd_check_chart) (G_check_chart : FnOk P w K mg base CX0 6 f_check_chart fd_check_chart ["chart"] (spP K T p_check_chart)) {f_ready_takings : Addr} {fd_ready_takings : FuncData} (D_ready_takings : Dk K mg "ready_takings" st_ready_takings ["table", "cells"] f_ready_takings fd_ready_takings) (G_ready_takings : FnOk P w K mg base CX0 2 f_ready_takings fd_ready_takings ["table", "cells"] (spP K T p_ready_takings)) {f_touch_table : Addr} {fd_touch_table : FuncData} (D_touch_table : Dk K mg "touch_table" st_touch_table ["chart"] f_touch_table fd_touch_table) (G_touch_table : FnOk P w K mg base CX0 3 f_touch_table fd_touch_table ["chart"] (spP K T p_touch_table)) : FnOk P w K mg base CX0 7 f fd ["chart"] (spP K T p_takings) :=
  fn_pure D.fn sc_takings g_takings (by decide) fun cdv A outer s H E H0 F0 io hr => (ess_cons (es_exp (eo_call (fun h => pe_call G_check_chart (hr.mono (by decide)) (by rfl) D_check_chart.mg D_check_chart.fn.kp D_check_chart.b .nil pass0 h) (ea_cons (eo_v 0 (pv 0)) ea_nil) fun _ => .nil)) (ess_cons (es_ret (eo_bn (fun h => pe_callTy call_tupF (by rfl) B.n_tuple (by decide +kernel) h) ln_tup (ea_cons (eo_call (fun h => pe_call G_ready_takings (hr.mono (by decide)) (by rfl) D_ready_takings.mg D_ready_takings.fn.kp D_ready_takings.b .nil pass0 h) (ea_cons (eo_call (fun h => pe_call G_touch_table (hr.mono (by decide)) (by rfl) D_touch_table.mg D_touch_table.fn.kp D_touch_table.b .nil pass0 h) (ea_cons (eo_v 0 (pv 0)) ea_nil) fun _ => .nil) (ea_cons (eo_ix ix_seq l2_ix (eo_v 0 (pv 0)) eo_int (fun _ _ => rfl)) ea_nil)) fun _ => .nil) ea_nil))) ess_nil))
/-! ### made -/
abbrev st_made : Stmt := topS 40
theorem sc_made : FnScope ["cells", "taking", "land", "cell"] ["cells", "taking"] (defScope st_made) := ⟨rfl, rfl, rfl, by decide +kernel, rfl, by decide +kernel, by decide +kernel⟩
def g_made : SS := (sSeq (sAsg (sV 1) (gT (gsCons (gN 2) (gsCons (gN 3) gsNil)) 2)) (sSeq (sRet (s2 fAdd (s2 fAdd (sSl fSl (sV 0) pNone (pSome (sV 3))) (sTup (sCons (sV 2) sNil))) (sSl fSl (sV 0) (pSome (s2 fAdd (sV 3) (sC (.int 1)))) pNone))) sNx))
def p_made : List PyData → Option PyData := fun ds => if ds.length = 2 then bodyP g_made 4 ds else none
theorem ok_made {f : Addr} {fd : FuncData} (D : Dk K mg "made" st_made ["cells", "taking"] f fd) (B : Bt mg) : FnOk P w K mg base CX0 1 f fd ["cells", "taking"] (spP K T p_made) :=
  fn_pure D.fn sc_made g_made (by decide) fun cdv A outer s H E H0 F0 io hr => (ess_cons (es_asg (fun h hg => ps_asg h hg) (eo_v 1 (pv 1)) (eg_t (egs_cons (eg_n 2 (pg_name (i := 2) sc_made.nd rfl (Or.inl rfl))) (egs_cons (eg_n 3 (pg_name (i := 3) sc_made.nd rfl (Or.inl rfl))) egs_nil (fun h h1 => pgs_cons h h1)) (fun h h1 => pgs_cons h h1)) (fun h => pg_tup (by rfl) h) rfl)) (ess_cons (es_ret (eo_op op_add3 l2_add3 (eo_op op_add3 l2_add3 (eo_slice rfl (fun h hl hh => pe_slice sl_D h hl hh) (eo_v 0 (pv 0)) ep_none (ep_some (eo_v 3 (pv 3)))) (eo_tup (ea_cons (eo_v 2 (pv 2)) ea_nil))) (eo_slice rfl (fun h hl hh => pe_slice sl_D h hl hh) (eo_v 0 (pv 0)) (ep_some (eo_op op_add3 l2_add3 (eo_v 3 (pv 3)) eo_int)) ep_none))) ess_nil))
/-! ### steps_by__ready_takings -/
abbrev st_steps_by__ready_takings : Stmt := topS 48
theorem sc_steps_by__ready_takings : FnScope ["chart", "choices", "table", "steps", "layer", "ahead", "cells", "taking", "behind"] ["chart", "choices"] (defScope st_steps_by__ready_takings) := ⟨rfl, rfl, rfl, by decide +kernel, rfl, by decide +kernel, by decide +kernel⟩
def b1_steps_by__ready_takings : SS := (sSeq (sAsg (sCall p_made [] (sCons (sV 6) (sCons (sV 7) sNil))) (gN 8)) (sSeq (sIfS (toT (s2 fNotInK (sV 8) (sB 3))) (sSeq (sSetK 3 (sV 8) (s2 fAdd (s2 fIxK (sB 3) (sV 6)) (sC (.int 1)))) (sSeq (sApp 5 (sV 8)) sNx)) sNx) sNx))
def l1_steps_by__ready_takings : SS := sFor (gN 7) (sSq (sCallV 1 0 p_ready_takings (sCons (sV 2) (sCons (sV 6) sNil)))) b1_steps_by__ready_takings
def b2_steps_by__ready_takings : SS := (sSeq l1_steps_by__ready_takings sNx)
def l2_steps_by__ready_takings : SS := sFor (gN 6) (sSq (sV 4)) b2_steps_by__ready_takings
def b3_steps_by__ready_takings : SS := (sSeq (sOwn 5 (sLst sNil)) (sSeq l2_steps_by__ready_takings (sSeq (sAsg (sV 5) (gN 4)) sNx)))
def w1_steps_by__ready_takings : SS := loopW (sTr (sV 4)) b3_steps_by__ready_takings 100000
def g_steps_by__ready_takings : SS := (sSeq (sAsg (sCall p_touch_table [] (sCons (sV 0) sNil)) (gN 2)) (sSeq (sNew1 3 (s2 fIx (sV 0) (sC (.int 1))) (sC (.int 0))) (sSeq (sAsg (sFr (sLst (sCons (s2 fIx (sV 0) (sC (.int 1))) sNil))) (gN 4)) (sSeq w1_steps_by__ready_takings (sSeq (sRet (sV 3)) sNx)))))
def p_steps_by__ready_takings : List PyData → Option PyData := fun ds => if ds.length + 1 = 2 then bodyF g_steps_by__ready_takings 9 1 ds else none
theorem ok_steps_by__ready_takings {f : Addr} {fd : FuncData} (D : Dk K mg "steps_by" st_steps_by__ready_takings ["chart", "choices"] f fd) (B : Bt mg) {f_touch_table : Addr} {fd_touch_table : FuncData} (D_touch_table : Dk K mg "touch_table" st_touch_table ["chart"] f_touch_table fd_touch_table) (G_touch_table : FnOk P w K mg base CX0 3 f_touch_table fd_touch_table ["chart"] (spP K T p_touch_table)) {f_ready_takings : Addr} {fd_ready_takings : FuncData} (D_ready_takings : Dk K mg "ready_takings" st_ready_takings ["table", "cells"] f_ready_takings fd_ready_takings) (G_ready_takings : FnOk P w K mg base CX0 2 f_ready_takings fd_ready_takings ["table", "cells"] (spP K T p_ready_takings)) {f_made : Addr} {fd_made : FuncData} (D_made : Dk K mg "made" st_made ["cells", "taking"] f_made fd_made) (G_made : FnOk P w K mg base CX0 1 f_made fd_made ["cells", "taking"] (spP K T p_made)) : FnOk P w K mg base CX0 4 f fd ["chart", "choices"] (spF K T [f_ready_takings] p_steps_by__ready_takings) :=
  fn_pureF (fs := [f_ready_takings]) D.fn sc_steps_by__ready_takings g_steps_by__ready_takings (by decide) fun cdv A outer s H E H0 F0 io hr => (ess_cons (es_asg (fun h hg => ps_asg h hg) (eo_call (fun h => pe_call G_touch_table (hr.mono (by decide)) (by rfl) D_touch_table.mg D_touch_table.fn.kp D_touch_table.b .nil pass0 h) (ea_cons (eo_v 0 (pv 0)) ea_nil) fun _ => .nil) (eg_n 2 (pg_name (i := 2) sc_steps_by__ready_takings.nd rfl (Or.inl rfl)))) (ess_cons (es_new1 3 rfl (hu20 hr) (fun h => ps_set (i := 3) sc_steps_by__ready_takings.nd rfl (Or.inl rfl) h) (fun H0 F0 io => (eo_ix ix_seq l2_ix (eo_v 0 (pv 0)) eo_int (fun _ _ => rfl))) (fun H0 F0 io => eo_int)) (ess_cons (es_asg (fun h hg => ps_asg h hg) (eo_fr (ef_lst (ea_cons (eo_ix ix_seq l2_ix (eo_v 0 (pv 0)) eo_int (fun _ _ => rfl)) ea_nil))) (eg_n 4 (pg_name (i := 4) sc_steps_by__ready_takings.nd rfl (Or.inl rfl)))) (ess_cons (es_while (n := 100000) (fun ht hb => ps_while PassesOwn.never ht hb) (et_tr (eo_v 4 (pv 4))) (ess_cons (es_own 5 (fun h => ps_set (i := 5) sc_steps_by__ready_takings.nd rfl (Or.inl rfl) h) (ef_lst ea_nil)) (ess_cons (es_for (fun wi hg hb => ps_for PassesOwn.never rfl wi hg hb) (ei_sq rfl (eo_v 4 (pv 4))) (eg_n 6 (pg_name (i := 6) sc_steps_by__ready_takings.nd rfl (Or.inl rfl))) (ess_cons (es_for (fun wi hg hb => ps_for PassesOwn.never rfl wi hg hb) (ei_sq rfl (eo_callV 1 0 (r := f_ready_takings) rfl (fun h => pe_callL G_ready_takings (hr.mono (by decide)) (by rfl) (by first | exact Or.inl rfl | exact Or.inr (Or.inl rfl) | exact Or.inr (Or.inr rfl)) D_ready_takings.fn.kp D_ready_takings.b .nil pass0 h) (ea_cons (eo_v 2 (pv 2)) (ea_cons (eo_v 6 (pv 6)) ea_nil)))) (eg_n 7 (pg_name (i := 7) sc_steps_by__ready_takings.nd rfl (Or.inl rfl))) (ess_cons (es_asg (fun h hg => ps_asg h hg) (eo_call (fun h => pe_call G_made (hr.mono (by decide)) (by rfl) D_made.mg D_made.fn.kp D_made.b .nil pass0 h) (ea_cons (eo_v 6 (pv 6)) (ea_cons (eo_v 7 (pv 7)) ea_nil)) fun _ => .nil) (eg_n 8 (pg_name (i := 8) sc_steps_by__ready_takings.nd rfl (Or.inl rfl)))) (ess_cons (es_if (et_cmp (op_notInK (hu20 hr)) l2_notInK (eo_v 8 (pv 8)) (eo_b 3 (pv 3)) (by with_unfolding_all rfl)) (ess_cons (es_setK 3 rfl (fun h hi => ps_asg h (pg_sub (pv 3) hi (pset_dct (hu20 hr)))) (eo_op op_add3 l2_add3 (eo_ix (ix_dct (hu20 hr)) l2_ixK (eo_b 3 (pv 3)) (eo_v 6 (pv 6)) (fun _ _ => rfl)) eo_int) (eo_v 8 (pv 8))) (ess_cons (es_app 5 rfl (fun h => ps_expr (pe_bm PySem.F.plainAttrs_list PySem.F.slot_list_append PySem.F.type_list_append mt_append (pv 5) (pa_cons h pa_nil))) (eo_v 8 (pv 8))) ess_nil)) ess_nil) ess_nil))) ess_nil)) (ess_cons (es_asg (fun h hg => ps_asg h hg) (eo_v 5 (pv 5)) (eg_n 4 (pg_name (i := 4) sc_steps_by__ready_takings.nd rfl (Or.inl rfl)))) ess_nil)))) (ess_cons (es_ret (eo_v 3 (pv 3))) ess_nil)))))
/-! ### steps_from -/
abbrev st_steps_from : Stmt := topS 47
theorem sc_steps_from : FnScope ["chart"] ["chart"] (defScope st_steps_from) := ⟨rfl, rfl, rfl, by decide +kernel, rfl, by decide +kernel, by decide +kernel⟩
def g_steps_from : SS := (sSeq (sRet (sCall p_steps_by__ready_takings [] (sCons (sV 0) sNil))) sNx)
def p_steps_from : List PyData → Option PyData := fun ds => if ds.length = 1 then bodyP g_steps_from 1 ds else none
theorem ok_steps_from {f : Addr} {fd : FuncData} (D : Dk K mg "steps_from" st_steps_from ["chart"] f fd) (B : Bt mg) {f_ready_takings : Addr} {fd_ready_takings : FuncData} (D_ready_takings : Dk K mg "ready_takings" st_ready_takings ["table", "cells"] f_ready_takings fd_ready_takings) (G_ready_takings : FnOk P w K mg base CX0 2 f_ready_takings fd_ready_takings ["table", "cells"] (spP K T p_ready_takings)) {f_steps_by__ready_takings : Addr} {fd_steps_by__ready_takings : FuncData} (D_steps_by__ready_takings : Dk K mg "steps_by" st_steps_by__ready_takings ["chart", "choices"] f_steps_by__ready_takings fd_steps_by__ready_takings) (G_steps_by__ready_takings : FnOk P w K mg base CX0 4 f_steps_by__ready_takings fd_steps_by__ready_takings ["chart", "choices"] (spF K T [f_ready_takings] p_steps_by__ready_takings)) : FnOk P w K mg base CX0 5 f fd ["chart"] (spP K T p_steps_from) :=
  fn_pure D.fn sc_steps_from g_steps_from (by decide) fun cdv A outer s H E H0 F0 io hr => (ess_cons (es_ret (eo_callF1 (r := f_ready_takings) (fun h => pe_call G_steps_by__ready_takings (hr.mono (by decide)) (by rfl) D_steps_by__ready_takings.mg D_steps_by__ready_takings.fn.kp D_steps_by__ready_takings.b .nil pass0 h) (eo_v 0 (pv 0)) (pe_glob (v := .ref f_ready_takings) (by rfl) D_ready_takings.mg rfl (by decide)))) ess_nil)
/-! ### class_size -/
abbrev st_class_size : Stmt := topS 49
theorem sc_class_size : FnScope ["chart"] ["chart"] (defScope st_class_size) := ⟨rfl, rfl, rfl, by decide +kernel, rfl, by decide +kernel, by decide +kernel⟩
def g_class_size : SS := (sSeq (sExp (sCall p_check_chart [] (sCons (sV 0) sNil))) (sSeq (sRet (sN fLenK (sCons (sCall p_steps_from [] (sCons (sV 0) sNil)) sNil))) sNx))
def p_class_size : List PyData → Option PyData := fun ds => if ds.length = 1 then bodyP g_class_size 1 ds else none
theorem ok_class_size {f : Addr} {fd : FuncData} (D : Dk K mg "class_size" st_class_size ["chart"] f fd) (B : Bt mg) {f_check_chart : Addr} {fd_check_chart : FuncData} (D_check_chart : Dk K mg "check_chart" st_check_chart ["chart"] f_check_chart fd_check_chart) (G_check_chart : FnOk P w K mg base CX0 6 f_check_chart fd_check_chart ["chart"] (spP K T p_check_chart)) {f_steps_from : Addr} {fd_steps_from : FuncData} (D_steps_from : Dk K mg "steps_from" st_steps_from ["chart"] f_steps_from fd_steps_from) (G_steps_from : FnOk P w K mg base CX0 5 f_steps_from fd_steps_from ["chart"] (spP K T p_steps_from)) : FnOk P w K mg base CX0 7 f fd ["chart"] (spP K T p_class_size) :=
  fn_pure D.fn sc_class_size g_class_size (by decide) fun cdv A outer s H E H0 F0 io hr => (ess_cons (es_exp (eo_call (fun h => pe_call G_check_chart (hr.mono (by decide)) (by rfl) D_check_chart.mg D_check_chart.fn.kp D_check_chart.b .nil pass0 h) (ea_cons (eo_v 0 (pv 0)) ea_nil) fun _ => .nil)) (ess_cons (es_ret (eo_bn (fun h => pe_callB call_lenK (by rfl) B.n_len PySem.boot_len h) ln_lenK (ea_cons (eo_call (fun h => pe_call G_steps_from (hr.mono (by decide)) (by rfl) D_steps_from.mg D_steps_from.fn.kp D_steps_from.b .nil pass0 h) (ea_cons (eo_v 0 (pv 0)) ea_nil) fun _ => .nil) ea_nil))) ess_nil))
/-! ### farthest -/
abbrev st_farthest : Stmt := topS 54
theorem sc_farthest : FnScope ["chart"] ["chart"] (defScope st_farthest) := ⟨rfl, rfl, rfl, by decide +kernel, rfl, by decide +kernel, by decide +kernel⟩
def g_farthest : SS := (sSeq (sExp (sCall p_check_chart [] (sCons (sV 0) sNil))) (sSeq (sRet (sMaxV (sCall p_steps_from [] (sCons (sV 0) sNil)))) sNx))
def p_farthest : List PyData → Option PyData := fun ds => if ds.length = 1 then bodyP g_farthest 1 ds else none
theorem ok_farthest {f : Addr} {fd : FuncData} (D : Dk K mg "farthest" st_farthest ["chart"] f fd) (B : Bt mg) {f_check_chart : Addr} {fd_check_chart : FuncData} (D_check_chart : Dk K mg "check_chart" st_check_chart ["chart"] f_check_chart fd_check_chart) (G_check_chart : FnOk P w K mg base CX0 6 f_check_chart fd_check_chart ["chart"] (spP K T p_check_chart)) {f_steps_from : Addr} {fd_steps_from : FuncData} (D_steps_from : Dk K mg "steps_from" st_steps_from ["chart"] f_steps_from fd_steps_from) (G_steps_from : FnOk P w K mg base CX0 5 f_steps_from fd_steps_from ["chart"] (spP K T p_steps_from)) : FnOk P w K mg base CX0 7 f fd ["chart"] (spP K T p_farthest) :=
  fn_pure D.fn sc_farthest g_farthest (by decide) fun cdv A outer s H E H0 F0 io hr => (ess_cons (es_exp (eo_call (fun h => pe_call G_check_chart (hr.mono (by decide)) (by rfl) D_check_chart.mg D_check_chart.fn.kp D_check_chart.b .nil pass0 h) (ea_cons (eo_v 0 (pv 0)) ea_nil) fun _ => .nil)) (ess_cons (es_ret (eo_maxV rfl (fun h => pe_maxV rfl (by rfl) B.n_max h) (eo_call (fun h => pe_call G_steps_from (hr.mono (by decide)) (by rfl) D_steps_from.mg D_steps_from.fn.kp D_steps_from.b .nil pass0 h) (ea_cons (eo_v 0 (pv 0)) ea_nil) fun _ => .nil))) ess_nil))
/-! ### lands_on -/
abbrev st_lands_on : Stmt := topS 44
theorem sc_lands_on : FnScope ["chart", "order"] ["chart"] (defScope st_lands_on) := ⟨rfl, rfl, rfl, by decide +kernel, rfl, by decide +kernel, by decide +kernel⟩
def c1_lands_on : SI := sComp (sSq (sCall p_orders [] (sCons (sV 0) sNil))) (gN 1) tYes' (sN fLen (sCons (sV 1) sNil)) [1]
def g_lands_on : SS := (sSeq (sRet (sN fTupOf (sCons (sFr c1_lands_on) sNil))) sNx)
def p_lands_on : List PyData → Option PyData := fun ds => if ds.length = 1 then bodyP g_lands_on 2 ds else none
theorem ok_lands_on {f : Addr} {fd : FuncData} (D : Dk K mg "lands_on" st_lands_on ["chart"] f fd) (B : Bt mg) {f_orders : Addr} {fd_orders : FuncData} (D_orders : Dk K mg "orders" st_orders ["chart"] f_orders fd_orders) (G_orders : FnOk P w K mg base CX0 7 f_orders fd_orders ["chart"] (spP K T p_orders)) : FnOk P w K mg base CX0 8 f fd ["chart"] (spP K T p_lands_on) :=
  fn_pure D.fn sc_lands_on g_lands_on (by decide) fun cdv A outer s H E H0 F0 io hr => (ess_cons (es_ret (eo_bn (fun h => pe_callTy call_tupF (by rfl) B.n_tuple (by decide +kernel) h) ln_tup (ea_cons (eo_fr (ef_comp (own := [("order", 1)]) (fun wi hg ht he => pe_lc (own := [("order", 1)]) rfl sc_lands_on.nd wi (blkOk_by (N := ["chart", "order"]) (sc := defScope st_lands_on) (by decide +kernel)) hg ht he) (ei_sq rfl (eo_call (fun h => pe_call G_orders (hr.mono (by decide)) (by rfl) D_orders.mg D_orders.fn.kp D_orders.b .nil pass0 h) (ea_cons (eo_v 0 (pv 0)) ea_nil) fun _ => .nil)) (by decide) (fun H0 F0 io s1 H1 C1 cl1 fp1 => (eg_n 1 (pg_name (i := 1) sc_lands_on.nd rfl (Or.inl rfl)))) (fun H0 F0 io s1 H1 C1 cl1 fp1 => ets_nil) (fun H0 F0 io s1 H1 C1 cl1 fp1 => (eo_bn (fun h => pe_callB call_len_seq (by rfl) B.n_len PySem.boot_len h) ln_len (ea_cons (eo_v 1 (pv 1)) ea_nil))))) ea_nil))) ess_nil)
/-! ### bare_arms -/
abbrev st_bare_arms : Stmt := topS 43
theorem sc_bare_arms : FnScope ["chart"] ["chart"] (defScope st_bare_arms) := ⟨rfl, rfl, rfl, by decide +kernel, rfl, by decide +kernel, by decide +kernel⟩
def g_bare_arms : SS := (sSeq (sRet (sOrE (sM1 fCount (sCall p_lands_on [] (sCons (sV 0) sNil)) (sC (.int 0))) (sM1T fCountT (sCall p_lands_on [] (sCons (sV 0) sNil)) (sC (.int 0))))) sNx)
def p_bare_arms : List PyData → Option PyData := fun ds => if ds.length = 1 then bodyP g_bare_arms 1 ds else none
theorem ok_bare_arms {f : Addr} {fd : FuncData} (D : Dk K mg "bare_arms" st_bare_arms ["chart"] f fd) (B : Bt mg) {f_lands_on : Addr} {fd_lands_on : FuncData} (D_lands_on : Dk K mg "lands_on" st_lands_on ["chart"] f_lands_on fd_lands_on) (G_lands_on : FnOk P w K mg base CX0 8 f_lands_on fd_lands_on ["chart"] (spP K T p_lands_on)) : FnOk P w K mg base CX0 9 f fd ["chart"] (spP K T p_bare_arms) :=
  fn_pure D.fn sc_bare_arms g_bare_arms (by decide) fun cdv A outer s H E H0 F0 io hr => (ess_cons (es_ret (eo_or2 (eo_m1 rfl (fun h h1 => pe_bm PySem.F.plainAttrs_list PySem.F.slot_list_count PySem.F.type_list_count mt_lcount h (pa_cons h1 pa_nil)) l1_count (eo_call (fun h => pe_call G_lands_on (hr.mono (by decide)) (by rfl) D_lands_on.mg D_lands_on.fn.kp D_lands_on.b .nil pass0 h) (ea_cons (eo_v 0 (pv 0)) ea_nil) fun _ => .nil) eo_int) (eo_m1T rfl (fun h h1 => pe_tm PySem.F.slot_tuple_count PySem.F.type_tuple_count mt_tcount h (pa_cons h1 pa_nil)) l1_countT (eo_call (fun h => pe_call G_lands_on (hr.mono (by decide)) (by rfl) D_lands_on.mg D_lands_on.fn.kp D_lands_on.b .nil pass0 h) (ea_cons (eo_v 0 (pv 0)) ea_nil) fun _ => .nil) eo_int))) ess_nil)
/-! ### is_frozen -/
abbrev st_is_frozen : Stmt := topS 42
theorem sc_is_frozen : FnScope ["chart"] ["chart"] (defScope st_is_frozen) := ⟨rfl, rfl, rfl, by decide +kernel, rfl, by decide +kernel, by decide +kernel⟩
def g_is_frozen : SS := (sSeq (sRet (s2 fGe (sCall p_bare_arms [] (sCons (sV 0) sNil)) (sC (.int 2)))) sNx)
def p_is_frozen : List PyData → Option PyData := fun ds => if ds.length = 1 then bodyP g_is_frozen 1 ds else none
theorem ok_is_frozen {f : Addr} {fd : FuncData} (D : Dk K mg "is_frozen" st_is_frozen ["chart"] f fd) (B : Bt mg) {f_bare_arms : Addr} {fd_bare_arms : FuncData} (D_bare_arms : Dk K mg "bare_arms" st_bare_arms ["chart"] f_bare_arms fd_bare_arms) (G_bare_arms : FnOk P w K mg base CX0 9 f_bare_arms fd_bare_arms ["chart"] (spP K T p_bare_arms)) : FnOk P w K mg base CX0 10 f fd ["chart"] (spP K T p_is_frozen) :=
  fn_pure D.fn sc_is_frozen g_is_frozen (by decide) fun cdv A outer s H E H0 F0 io hr => (ess_cons (es_ret (eo_cmp op_ge l2_ge (eo_call (fun h => pe_call G_bare_arms (hr.mono (by decide)) (by rfl) D_bare_arms.mg D_bare_arms.fn.kp D_bare_arms.b .nil pass0 h) (ea_cons (eo_v 0 (pv 0)) ea_nil) fun _ => .nil) eo_int (nomark _))) ess_nil)
/-! ### own_lands -/
abbrev st_own_lands : Stmt := topS 45
theorem sc_own_lands : FnScope ["chart", "row"] ["chart"] (defScope st_own_lands) := ⟨rfl, rfl, rfl, by decide +kernel, rfl, by decide +kernel, by decide +kernel⟩
def c1_own_lands : SI := sComp (sSq (sCall p_arm_rows [] (sCons (sV 0) sNil))) (gN 1) tYes' (s2 fIx (sV 1) (sC (.int (-1)))) [1]
def g_own_lands : SS := (sSeq (sExp (sCall p_check_chart [] (sCons (sV 0) sNil))) (sSeq (sIfS (sTr (sCall p_is_frozen [] (sCons (sV 0) sNil))) (sSeq (sRet (sC .none)) sNx) sNx) (sSeq (sRet (sN fTupOf (sCons (sFr c1_own_lands) sNil))) sNx)))
def p_own_lands : List PyData → Option PyData := fun ds => if ds.length = 1 then bodyP g_own_lands 2 ds else none
theorem ok_own_lands {f : Addr} {fd : FuncData} (D : Dk K mg "own_lands" st_own_lands ["chart"] f fd) (B : Bt mg) {f_check_chart : Addr} {fd_check_chart : FuncData} (D_check_chart : Dk K mg "check_chart" st_check_chart ["chart"] f_check_chart fd_check_chart) (G_check_chart : FnOk P w K mg base CX0 6 f_check_chart fd_check_chart ["chart"] (spP K T p_check_chart)) {f_is_frozen : Addr} {fd_is_frozen : FuncData} (D_is_frozen : Dk K mg "is_frozen" st_is_frozen ["chart"] f_is_frozen fd_is_frozen) (G_is_frozen : FnOk P w K mg base CX0 10 f_is_frozen fd_is_frozen ["chart"] (spP K T p_is_frozen)) {f_arm_rows : Addr} {fd_arm_rows : FuncData} (D_arm_rows : Dk K mg "arm_rows" st_arm_rows ["chart"] f_arm_rows fd_arm_rows) (G_arm_rows : FnOk P w K mg base CX0 2 f_arm_rows fd_arm_rows ["chart"] (spP K T p_arm_rows)) : FnOk P w K mg base CX0 11 f fd ["chart"] (spP K T p_own_lands) :=
  fn_pure D.fn sc_own_lands g_own_lands (by decide) fun cdv A outer s H E H0 F0 io hr => (ess_cons (es_exp (eo_call (fun h => pe_call G_check_chart (hr.mono (by decide)) (by rfl) D_check_chart.mg D_check_chart.fn.kp D_check_chart.b .nil pass0 h) (ea_cons (eo_v 0 (pv 0)) ea_nil) fun _ => .nil)) (ess_cons (es_if (et_tr (eo_call (fun h => pe_call G_is_frozen (hr.mono (by decide)) (by rfl) D_is_frozen.mg D_is_frozen.fn.kp D_is_frozen.b .nil pass0 h) (ea_cons (eo_v 0 (pv 0)) ea_nil) fun _ => .nil)) (ess_cons (es_ret eo_non) ess_nil) ess_nil) (ess_cons (es_ret (eo_bn (fun h => pe_callTy call_tupF (by rfl) B.n_tuple (by decide +kernel) h) ln_tup (ea_cons (eo_fr (ef_comp (own := [("row", 1)]) (fun wi hg ht he => pe_lc (own := [("row", 1)]) rfl sc_own_lands.nd wi (blkOk_by (N := ["chart", "row"]) (sc := defScope st_own_lands) (by decide +kernel)) hg ht he) (ei_sq rfl (eo_call (fun h => pe_call G_arm_rows (hr.mono (by decide)) (by rfl) D_arm_rows.mg D_arm_rows.fn.kp D_arm_rows.b .nil pass0 h) (ea_cons (eo_v 0 (pv 0)) ea_nil) fun _ => .nil)) (by decide) (fun H0 F0 io s1 H1 C1 cl1 fp1 => (eg_n 1 (pg_name (i := 1) sc_own_lands.nd rfl (Or.inl rfl)))) (fun H0 F0 io s1 H1 C1 cl1 fp1 => ets_nil) (fun H0 F0 io s1 H1 C1 cl1 fp1 => (eo_ix ix_seq l2_ix (eo_v 1 (pv 1)) (eo_neg 1) (fun _ _ => rfl))))) ea_nil))) ess_nil)))
/-! ### places_on -/
abbrev st_places_on : Stmt := topS 52
theorem sc_places_on : FnScope ["hub", "row", "before", "place", "land"] ["hub", "row"] (defScope st_places_on) := ⟨rfl, rfl, rfl, by decide +kernel, rfl, by decide +kernel, by decide +kernel⟩
def c1_places_on : SI := sComp (sEnum (sCons (sV 1) sNil)) (gT (gsCons (gN 3) (gsCons (gN 4) gsNil)) 2) (toT (s2 fNe (sV 4) (s2 fIx (sV 2) (sV 3)))) (sV 3) [3, 4]
def g_places_on : SS := (sSeq (sAsg (s2 fAdd (sTup (sCons (sV 0) sNil)) (sV 1)) (gN 2)) (sSeq (sRet (sN fTupOf (sCons (sFr c1_places_on) sNil))) sNx))
def p_places_on : List PyData → Option PyData := fun ds => if ds.length = 2 then bodyP g_places_on 5 ds else none
theorem ok_places_on {f : Addr} {fd : FuncData} (D : Dk K mg "places_on" st_places_on ["hub", "row"] f fd) (B : Bt mg) : FnOk P w K mg base CX0 1 f fd ["hub", "row"] (spP K T p_places_on) :=
  fn_pure D.fn sc_places_on g_places_on (by decide) fun cdv A outer s H E H0 F0 io hr => (ess_cons (es_asg (fun h hg => ps_asg h hg) (eo_op op_add3 l2_add3 (eo_tup (ea_cons (eo_v 0 (pv 0)) ea_nil)) (eo_v 1 (pv 1))) (eg_n 2 (pg_name (i := 2) sc_places_on.nd rfl (Or.inr rfl)))) (ess_cons (es_ret (eo_bn (fun h => pe_callTy call_tupF (by rfl) B.n_tuple (by decide +kernel) h) ln_tup (ea_cons (eo_fr (ef_comp (own := [("place", 3), ("land", 4)]) (fun wi hg ht he => pe_lc (own := [("place", 3), ("land", 4)]) rfl sc_places_on.nd wi (blkOk_by (N := ["hub", "row", "before", "place", "land"]) (sc := defScope st_places_on) (by decide +kernel)) hg ht he) (ei_enum rfl (fun h => ENT.pi_enumL (by rfl) B.n_enumerate h) (fun h => ENT.pi_enumT (by rfl) B.n_enumerate h) (ea_cons (eo_v 1 (pv 1)) ea_nil)) (by decide) (fun H0 F0 io s1 H1 C1 cl1 fp1 => (eg_t (egs_cons (eg_n 3 (pg_name (i := 3) sc_places_on.nd rfl (Or.inl rfl))) (egs_cons (eg_n 4 (pg_name (i := 4) sc_places_on.nd rfl (Or.inl rfl))) egs_nil (fun h h1 => pgs_cons h h1)) (fun h h1 => pgs_cons h h1)) (fun h => pg_tup (by rfl) h) rfl)) (fun H0 F0 io s1 H1 C1 cl1 fp1 => (ets_one (et_cmp (op_neD (hu64 hr)) l2_ne (eo_v 4 (pv 4)) (eo_ix ix_seq l2_ix (eo_v 2 (pv 2)) (eo_v 3 (pv 3)) (fun _ _ => rfl)) (nomark _)))) (fun H0 F0 io s1 H1 C1 cl1 fp1 => (eo_v 3 (pv 3))))) ea_nil))) ess_nil))
/-! ### border_places -/
abbrev st_border_places : Stmt := topS 51
theorem sc_border_places : FnScope ["chart", "row"] ["chart"] (defScope st_border_places) := ⟨rfl, rfl, rfl, by decide +kernel, rfl, by decide +kernel, by decide +kernel⟩
def c1_border_places : SI := sComp (sSq (sCall p_arm_rows [] (sCons (sV 0) sNil))) (gN 1) tYes' (sCall p_places_on [] (sCons (s2 fIx (s2 fIx (sV 0) (sC (.int 1))) (sC (.int 0))) (sCons (sV 1) sNil))) [1]
def g_border_places : SS := (sSeq (sExp (sCall p_check_chart [] (sCons (sV 0) sNil))) (sSeq (sRet (sN fTupOf (sCons (sFr c1_border_places) sNil))) sNx))
def p_border_places : List PyData → Option PyData := fun ds => if ds.length = 1 then bodyP g_border_places 2 ds else none
theorem ok_border_places {f : Addr} {fd : FuncData} (D : Dk K mg "border_places" st_border_places ["chart"] f fd) (B : Bt mg) {f_check_chart : Addr} {fd_check_chart : FuncData} (D_check_chart : Dk K mg "check_chart" st_check_chart ["chart"] f_check_chart fd_check_chart) (G_check_chart : FnOk P w K mg base CX0 6 f_check_chart fd_check_chart ["chart"] (spP K T p_check_chart)) {f_arm_rows : Addr} {fd_arm_rows : FuncData} (D_arm_rows : Dk K mg "arm_rows" st_arm_rows ["chart"] f_arm_rows fd_arm_rows) (G_arm_rows : FnOk P w K mg base CX0 2 f_arm_rows fd_arm_rows ["chart"] (spP K T p_arm_rows)) {f_places_on : Addr} {fd_places_on : FuncData} (D_places_on : Dk K mg "places_on" st_places_on ["hub", "row"] f_places_on fd_places_on) (G_places_on : FnOk P w K mg base CX0 1 f_places_on fd_places_on ["hub", "row"] (spP K T p_places_on)) : FnOk P w K mg base CX0 7 f fd ["chart"] (spP K T p_border_places) :=
  fn_pure D.fn sc_border_places g_border_places (by decide) fun cdv A outer s H E H0 F0 io hr => (ess_cons (es_exp (eo_call (fun h => pe_call G_check_chart (hr.mono (by decide)) (by rfl) D_check_chart.mg D_check_chart.fn.kp D_check_chart.b .nil pass0 h) (ea_cons (eo_v 0 (pv 0)) ea_nil) fun _ => .nil)) (ess_cons (es_ret (eo_bn (fun h => pe_callTy call_tupF (by rfl) B.n_tuple (by decide +kernel) h) ln_tup (ea_cons (eo_fr (ef_comp (own := [("row", 1)]) (fun wi hg ht he => pe_lc (own := [("row", 1)]) rfl sc_border_places.nd wi (blkOk_by (N := ["chart", "row"]) (sc := defScope st_border_places) (by decide +kernel)) hg ht he) (ei_sq rfl (eo_call (fun h => pe_call G_arm_rows (hr.mono (by decide)) (by rfl) D_arm_rows.mg D_arm_rows.fn.kp D_arm_rows.b .nil pass0 h) (ea_cons (eo_v 0 (pv 0)) ea_nil) fun _ => .nil)) (by decide) (fun H0 F0 io s1 H1 C1 cl1 fp1 => (eg_n 1 (pg_name (i := 1) sc_border_places.nd rfl (Or.inl rfl)))) (fun H0 F0 io s1 H1 C1 cl1 fp1 => ets_nil) (fun H0 F0 io s1 H1 C1 cl1 fp1 => (eo_call (fun h => pe_call G_places_on (hr.mono (by decide)) (by rfl) D_places_on.mg D_places_on.fn.kp D_places_on.b .nil pass0 h) (ea_cons (eo_ix ix_seq l2_ix (eo_ix ix_seq l2_ix (eo_v 0 (pv 0)) eo_int (fun _ _ => rfl)) eo_int (fun _ _ => rfl)) (ea_cons (eo_v 1 (pv 1)) ea_nil)) fun _ => .nil)))) ea_nil))) ess_nil))
/-! ### land_areas -/
abbrev st_land_areas : Stmt := topS 27
theorem sc_land_areas : FnScope ["cells", "land"] ["cells"] (defScope st_land_areas) := ⟨rfl, rfl, rfl, by decide +kernel, rfl, by decide +kernel, by decide +kernel⟩
def c1_land_areas : SI := sComp (sRg1 (sCons (s2 fAdd (sN fMax (sCons (sV 0) sNil)) (sC (.int 1))) sNil)) (gN 1) tYes' (sOrE (sM1 fCount (sV 0) (sV 1)) (sM1T fCountT (sV 0) (sV 1))) [1]
def g_land_areas : SS := (sSeq (sRet (sN fTupOf (sCons (sFr c1_land_areas) sNil))) sNx)
def p_land_areas : List PyData → Option PyData := fun ds => if ds.length = 1 then bodyP g_land_areas 2 ds else none
theorem ok_land_areas {f : Addr} {fd : FuncData} (D : Dk K mg "land_areas" st_land_areas ["cells"] f fd) (B : Bt mg) : FnOk P w K mg base CX0 1 f fd ["cells"] (spP K T p_land_areas) :=
  fn_pure D.fn sc_land_areas g_land_areas (by decide) fun cdv A outer s H E H0 F0 io hr => (ess_cons (es_ret (eo_bn (fun h => pe_callTy call_tupF (by rfl) B.n_tuple (by decide +kernel) h) ln_tup (ea_cons (eo_fr (ef_comp (own := [("land", 1)]) (fun wi hg ht he => pe_lc (own := [("land", 1)]) rfl sc_land_areas.nd wi (blkOk_by (N := ["cells", "land"]) (sc := defScope st_land_areas) (by decide +kernel)) hg ht he) (ei_rg1 (fun h => pi_range1 (by rfl) B.n_range h) (ea_cons (eo_op op_add3 l2_add3 (eo_bn (fun h => pe_callB (cr_maxA (by rfl) (hu64 hr)) (by rfl) B.n_max (by decide +kernel) h) ln_max (ea_cons (eo_v 0 (pv 0)) ea_nil)) eo_int) ea_nil)) (by decide) (fun H0 F0 io s1 H1 C1 cl1 fp1 => (eg_n 1 (pg_name (i := 1) sc_land_areas.nd rfl (Or.inl rfl)))) (fun H0 F0 io s1 H1 C1 cl1 fp1 => ets_nil) (fun H0 F0 io s1 H1 C1 cl1 fp1 => (eo_or2 (eo_m1 rfl (fun h h1 => pe_bm PySem.F.plainAttrs_list PySem.F.slot_list_count PySem.F.type_list_count mt_lcount h (pa_cons h1 pa_nil)) l1_count (eo_v 0 (pv 0)) (eo_v 1 (pv 1))) (eo_m1T rfl (fun h h1 => pe_tm PySem.F.slot_tuple_count PySem.F.type_tuple_count mt_tcount h (pa_cons h1 pa_nil)) l1_countT (eo_v 0 (pv 0)) (eo_v 1 (pv 1))))))) ea_nil))) ess_nil)
/-! ### areas -/
abbrev st_areas : Stmt := topS 26
theorem sc_areas : FnScope ["chart"] ["chart"] (defScope st_areas) := ⟨rfl, rfl, rfl, by decide +kernel, rfl, by decide +kernel, by decide +kernel⟩
def g_areas : SS := (sSeq (sExp (sCall p_check_chart [] (sCons (sV 0) sNil))) (sSeq (sRet (sCall p_land_areas [] (sCons (s2 fIx (sV 0) (sC (.int 1))) sNil))) sNx))
def p_areas : List PyData → Option PyData := fun ds => if ds.length = 1 then bodyP g_areas 1 ds else none
theorem ok_areas {f : Addr} {fd : FuncData} (D : Dk K mg "areas" st_areas ["chart"] f fd) (B : Bt mg) {f_check_chart : Addr} {fd_check_chart : FuncData} (D_check_chart : Dk K mg "check_chart" st_check_chart ["chart"] f_check_chart fd_check_chart) (G_check_chart : FnOk P w K mg base CX0 6 f_check_chart fd_check_chart ["chart"] (spP K T p_check_chart)) {f_land_areas : Addr} {fd_land_areas : FuncData} (D_land_areas : Dk K mg "land_areas" st_land_areas ["cells"] f_land_areas fd_land_areas) (G_land_areas : FnOk P w K mg base CX0 1 f_land_areas fd_land_areas ["cells"] (spP K T p_land_areas)) : FnOk P w K mg base CX0 7 f fd ["chart"] (spP K T p_areas) :=
  fn_pure D.fn sc_areas g_areas (by decide) fun cdv A outer s H E H0 F0 io hr => (ess_cons (es_exp (eo_call (fun h => pe_call G_check_chart (hr.mono (by decide)) (by rfl) D_check_chart.mg D_check_chart.fn.kp D_check_chart.b .nil pass0 h) (ea_cons (eo_v 0 (pv 0)) ea_nil) fun _ => .nil)) (ess_cons (es_ret (eo_call (fun h => pe_call G_land_areas (hr.mono (by decide)) (by rfl) D_land_areas.mg D_land_areas.fn.kp D_land_areas.b .nil pass0 h) (ea_cons (eo_ix ix_seq l2_ix (eo_v 0 (pv 0)) eo_int (fun _ _ => rfl)) ea_nil) fun _ => .nil)) ess_nil))
/-! ### law -/
abbrev st_law : Stmt := topS 67
theorem sc_law : FnScope ["script", "row", "arms", "length", "order", "left", "turn", "one", "arm", "lines", "places", "chart", "less", "other", "k"] ["script"] (defScope st_law) := ⟨rfl, rfl, rfl, by decide +kernel, rfl, by decide +kernel, by decide +kernel⟩
def c1_law : SI := sComp (sSq (sV 5)) (gN 14) (toT (s2 fNe (sV 14) (sV 7))) (sV 14) [14]
def b1_law : SS := (sSeq (sAsg (sCallI p__law_pick (sCons (sB 1) (sCons (sV 5) sNil))) (gN 7)) (sSeq (sAsg (sTup (sCons (s2 fAdd (sV 4) (sFr (sLst (sCons (sV 7) sNil)))) (sCons (sFr c1_law) sNil))) (gT (gsCons (gN 4) (gsCons (gN 5) gsNil)) 2)) sNx))
def l1_law : SS := sFor (gN 6) (sRg1 (sCons (s2 fAdd (sV 3) (sC (.int 1))) sNil)) b1_law
def c2_law : SI := sComp (sRg1 (sCons (sV 2) sNil)) (gN 14) tYes' (sIf (toT (s2 fEq (sV 14) (sV 8))) (sN fTupOf (sCons (sSl fSl (sV 4) (pSome (sC (.int 1))) pNone) sNil)) (sTup sNil)) [14]
def c3_law : SI := sComp (sRg1 (sCons (sV 2) sNil)) (gN 14) tYes' (sIf (toT (s2 fEq (sV 14) (sV 8))) (sTupRg (sR1 (sV 3))) (sTup sNil)) [14]
def c4_law : SI := sComp (sRg1 (sCons (sV 2) sNil)) (gN 14) tYes' (sIf (toT (s2 fEq (sV 14) (sV 8))) (sN fTupOf (sCons (sSl fSl (sV 4) (pSome (sC (.int 1))) (pSome (sV 3))) sNil)) (sTup sNil)) [14]
def c5_law : SI := sComp (sRg1 (sCons (sV 2) sNil)) (gN 14) tYes' (sIf (toT (s2 fEq (sV 14) (sV 8))) (sTupRg (sR1 (s2 fSub (sV 3) (sC (.int 1))))) (sTup sNil)) [14]
def c6_law : SI := sComp (sRg1 (sCons (sV 2) sNil)) (gN 14) tYes' (sIf (toT (s2 fEq (sV 14) (sV 8))) (sTupRg (sR1 (s2 fSub (sV 3) (sC (.int 1))))) (sTup sNil)) [14]
def g_law : SS := (sSeq (sOwn 1 (sLst (sCons (sV 0) (sCons (sC (.int 0)) (sCons (sC (.int 13989)) (sCons (sC (.int 0)) sNil)))))) (sSeq (sAsg (sTup (sCons (s2 fAdd (sC (.int 3)) (sCallI p__law_taken (sCons (sB 1) (sCons (sC (.int 2)) sNil)))) (sCons (s2 fAdd (sC (.int 1)) (sCallI p__law_taken (sCons (sB 1) (sCons (sC (.int 4)) sNil)))) sNil))) (gT (gsCons (gN 2) (gsCons (gN 3) gsNil)) 2)) (sSeq (sAsg (sTup (sCons (sFr (sLst sNil)) (sCons (sFr (sLstRg (sR1 (s2 fAdd (sV 3) (sC (.int 1)))))) sNil))) (gT (gsCons (gN 4) (gsCons (gN 5) gsNil)) 2)) (sSeq l1_law (sSeq (sAsg (sCallI p__law_taken (sCons (sB 1) (sCons (sV 2) sNil))) (gN 8)) (sSeq (sAsg (sN fTupOf (sCons (sFr c2_law) sNil)) (gN 9)) (sSeq (sAsg (sN fTupOf (sCons (sFr c3_law) sNil)) (gN 10)) (sSeq (sAsg (sCall p_from_orders [] (sCons (sV 3) (sCons (s2 fIx (sV 4) (sC (.int 0))) (sCons (sV 9) (sCons (sV 10) sNil))))) (gN 11)) (sSeq (sIfS (tOr' (toT (s2 fIs (sV 11) (sC .none))) (tOr' (toT (s2 fNe (sCall p_takings [] (sCons (sV 11) sNil)) (sTup sNil))) (tOr' (toT (s2 fNe (sCall p_class_size [] (sCons (sV 11) sNil)) (sC (.int 1)))) (tOr' (toT (s2 fNe (sCall p_farthest [] (sCons (sV 11) sNil)) (sC (.int 0)))) (tOr' (toT (s2 fIsNot (sCall p_is_frozen [] (sCons (sV 11) sNil)) (sC (.bool true)))) (toT (s2 fIsNot (sCall p_own_lands [] (sCons (sV 11) sNil)) (sC .none)))))))) (sSeq (sRet (sC (.bool false))) sNx) sNx) (sSeq (sIfS (tOr' (toT (s2 fNe (sCall p_orders [] (sCons (sV 11) sNil)) (sV 9))) (tOr' (toT (s2 fNe (sCall p_border_places [] (sCons (sV 11) sNil)) (sV 10))) (tOr' (toT (s2 fNe (s2 fIx (sCall p_lands_on [] (sCons (sV 11) sNil)) (sV 8)) (sV 3))) (toT (s2 fNe (s2 fIx (sCall p_areas [] (sCons (sV 11) sNil)) (s2 fIx (sV 4) (sC (.int 0)))) (s2 fAdd (s2 fMul (s2 fSub (sV 2) (sC (.int 1))) (sV 3)) (sC (.int 1)))))))) (sSeq (sRet (sC (.bool false))) sNx) sNx) (sSeq (sIfS (toT (s2 fEq (sV 3) (sC (.int 1)))) (sSeq (sRet (s2 fEq (s2 fIx (sCall p_areas [] (sCons (sV 11) sNil)) (s2 fIx (sV 4) (sC (.int 1)))) (sC (.int 1)))) sNx) sNx) (sSeq (sAsg (sN fTupOf (sCons (sFr c4_law) sNil)) (gN 12)) (sSeq (sIfS (toT (s2 fNe (s2 fIx (sV 4) (sV 3)) (sV 3))) (sSeq (sRet (s2 fIs (sCall p_from_orders [] (sCons (sV 3) (sCons (s2 fIx (sV 4) (sC (.int 0))) (sCons (sV 12) (sCons (sN fTupOf (sCons (sFr c5_law) sNil)) sNil))))) (sC .none))) sNx) sNx) (sSeq (sAsg (sCall p_from_orders [] (sCons (sV 3) (sCons (s2 fIx (sV 4) (sC (.int 0))) (sCons (sV 12) (sCons (sN fTupOf (sCons (sFr c6_law) sNil)) sNil))))) (gN 13)) (sSeq (sIfS (tOr' (toT (s2 fIs (sV 13) (sC .none))) (tOr' (toT (s2 fNe (sCall p_class_size [] (sCons (sV 13) sNil)) (sV 3))) (tOr' (toT (s2 fNe (sCall p_farthest [] (sCons (sV 13) sNil)) (s2 fSub (sV 3) (sC (.int 1))))) (toT (s2 fNe (sN fLen (sCons (sCall p_takings [] (sCons (sV 13) sNil)) sNil)) (sC (.int 1))))))) (sSeq (sRet (sC (.bool false))) sNx) sNx) (sSeq (sRet (s2 fEq (sCall p_takings [] (sCons (sV 13) sNil)) (sTup (sCons (sTup (sCons (sIf (toT (s2 fGt (sV 3) (sC (.int 2)))) (s2 fIx (sV 4) (s2 fSub (sV 3) (sC (.int 2)))) (s2 fIx (sV 4) (sC (.int 0)))) (sCons (s2 fSub (s2 fAdd (s2 fAdd (sC (.int 1)) (s2 fMul (sV 8) (sV 3))) (sV 3)) (sC (.int 2))) sNil))) sNil)))) sNx))))))))))))))))
def p_law : List PyData → Option PyData := fun ds => if ds.length = 1 then bodyP g_law 15 ds else none
theorem ok_law {f : Addr} {fd : FuncData} (D : Dk K mg "law" st_law ["script"] f fd) (B : Bt mg) {f__law_taken : Addr} {fd__law_taken : FuncData} (D__law_taken : Dk K mg "_law_taken" st__law_taken ["row", "many"] f__law_taken fd__law_taken) (G__law_taken : FnOk P w K mg base CX0 1 f__law_taken fd__law_taken ["row", "many"] (spI K T p__law_taken)) {f__law_pick : Addr} {fd__law_pick : FuncData} (D__law_pick : Dk K mg "_law_pick" st__law_pick ["row", "things"] f__law_pick fd__law_pick) (G__law_pick : FnOk P w K mg base CX0 2 f__law_pick fd__law_pick ["row", "things"] (spI K T p__law_pick)) {f_from_orders : Addr} {fd_from_orders : FuncData} (D_from_orders : Dk K mg "from_orders" st_from_orders ["length", "hub", "orders", "places"] f_from_orders fd_from_orders) (G_from_orders : FnOk P w K mg base CX0 7 f_from_orders fd_from_orders ["length", "hub", "orders", "places"] (spP K T p_from_orders)) {f_takings : Addr} {fd_takings : FuncData} (D_takings : Dk K mg "takings" st_takings ["chart"] f_takings fd_takings) (G_takings : FnOk P w K mg base CX0 7 f_takings fd_takings ["chart"] (spP K T p_takings)) {f_class_size : Addr} {fd_class_size : FuncData} (D_class_size : Dk K mg "class_size" st_class_size ["chart"] f_class_size fd_class_size) (G_class_size : FnOk P w K mg base CX0 7 f_class_size fd_class_size ["chart"] (spP K T p_class_size)) {f_farthest : Addr} {fd_farthest : FuncData} (D_farthest : Dk K mg "farthest" st_farthest ["chart"] f_farthest fd_farthest) (G_farthest : FnOk P w K mg base CX0 7 f_farthest fd_farthest ["chart"] (spP K T p_farthest)) {f_is_frozen : Addr} {fd_is_frozen : FuncData} (D_is_frozen : Dk K mg "is_frozen" st_is_frozen ["chart"] f_is_frozen fd_is_frozen) (G_is_frozen : FnOk P w K mg base CX0 10 f_is_frozen fd_is_frozen ["chart"] (spP K T p_is_frozen)) {f_own_lands : Addr} {fd_own_lands : FuncData} (D_own_lands : Dk K mg "own_lands" st_own_lands ["chart"] f_own_lands fd_own_lands) (G_own_lands : FnOk P w K mg base CX0 11 f_own_lands fd_own_lands ["chart"] (spP K T p_own_lands)) {f_orders : Addr} {fd_orders : FuncData} (D_orders : Dk K mg "orders" st_orders ["chart"] f_orders fd_orders) (G_orders : FnOk P w K mg base CX0 7 f_orders fd_orders ["chart"] (spP K T p_orders)) {f_border_places : Addr} {fd_border_places : FuncData} (D_border_places : Dk K mg "border_places" st_border_places ["chart"] f_border_places fd_border_places) (G_border_places : FnOk P w K mg base CX0 7 f_border_places fd_border_places ["chart"] (spP K T p_border_places)) {f_lands_on : Addr} {fd_lands_on : FuncData} (D_lands_on : Dk K mg "lands_on" st_lands_on ["chart"] f_lands_on fd_lands_on) (G_lands_on : FnOk P w K mg base CX0 8 f_lands_on fd_lands_on ["chart"] (spP K T p_lands_on)) {f_areas : Addr} {fd_areas : FuncData} (D_areas : Dk K mg "areas" st_areas ["chart"] f_areas fd_areas) (G_areas : FnOk P w K mg base CX0 7 f_areas fd_areas ["chart"] (spP K T p_areas)) : FnOk P w K mg base CX0 12 f fd ["script"] (spP K T p_law) :=
  fn_pure D.fn sc_law g_law (by decide) fun cdv A outer s H E H0 F0 io hr => (ess_cons (es_own 1 (fun h => ps_set (i := 1) sc_law.nd rfl (Or.inl rfl) h) (ef_lst (ea_cons (eo_v 0 (pv 0)) (ea_cons eo_int (ea_cons eo_int (ea_cons eo_int ea_nil)))))) (ess_cons (es_asg (fun h hg => ps_asg h hg) (eo_tup (ea_cons (eo_op op_add3 l2_add3 eo_int (eo_callI (fun h => pe_call G__law_taken (hr.mono (by decide)) (by rfl) D__law_taken.mg D__law_taken.fn.kp D__law_taken.b .nil pass0 h) (ea_cons (eo_b 1 (pv 1)) (ea_cons eo_int ea_nil)))) (ea_cons (eo_op op_add3 l2_add3 eo_int (eo_callI (fun h => pe_call G__law_taken (hr.mono (by decide)) (by rfl) D__law_taken.mg D__law_taken.fn.kp D__law_taken.b .nil pass0 h) (ea_cons (eo_b 1 (pv 1)) (ea_cons eo_int ea_nil)))) ea_nil))) (eg_t (egs_cons (eg_n 2 (pg_name (i := 2) sc_law.nd rfl (Or.inl rfl))) (egs_cons (eg_n 3 (pg_name (i := 3) sc_law.nd rfl (Or.inr rfl))) egs_nil (fun h h1 => pgs_cons h h1)) (fun h h1 => pgs_cons h h1)) (fun h => pg_tup (by rfl) h) rfl)) (ess_cons (es_asg (fun h hg => ps_asg h hg) (eo_tup (ea_cons (eo_fr (ef_lst ea_nil)) (ea_cons (eo_fr (ef_lstRg (fun h => pe_listRg (by rfl) (by rfl) B.n_list h) (er_1 (fun h => prg_1 (by rfl) B.n_range h) (eo_op op_add3 l2_add3 (eo_v 3 (pv 3)) eo_int)))) ea_nil))) (eg_t (egs_cons (eg_n 4 (pg_name (i := 4) sc_law.nd rfl (Or.inr rfl))) (egs_cons (eg_n 5 (pg_name (i := 5) sc_law.nd rfl (Or.inl rfl))) egs_nil (fun h h1 => pgs_cons h h1)) (fun h h1 => pgs_cons h h1)) (fun h => pg_tup (by rfl) h) rfl)) (ess_cons (es_for (fun wi hg hb => ps_for PassesOwn.never rfl wi hg hb) (ei_rg1 (fun h => pi_range1 (by rfl) B.n_range h) (ea_cons (eo_op op_add3 l2_add3 (eo_v 3 (pv 3)) eo_int) ea_nil)) (eg_n 6 (pg_name (i := 6) sc_law.nd rfl (Or.inl rfl))) (ess_cons (es_asg (fun h hg => ps_asg h hg) (eo_callI (fun h => pe_call G__law_pick (hr.mono (by decide)) (by rfl) D__law_pick.mg D__law_pick.fn.kp D__law_pick.b .nil pass0 h) (ea_cons (eo_b 1 (pv 1)) (ea_cons (eo_v 5 (pv 5)) ea_nil))) (eg_n 7 (pg_name (i := 7) sc_law.nd rfl (Or.inr rfl)))) (ess_cons (es_asg (fun h hg => ps_asg h hg) (eo_tup (ea_cons (eo_op op_add3 l2_add3 (eo_v 4 (pv 4)) (eo_fr (ef_lst (ea_cons (eo_v 7 (pv 7)) ea_nil)))) (ea_cons (eo_fr (ef_comp (own := [("k", 14)]) (fun wi hg ht he => pe_lc (own := [("k", 14)]) rfl sc_law.nd wi (blkOk_by (N := ["script", "row", "arms", "length", "order", "left", "turn", "one", "arm", "lines", "places", "chart", "less", "other", "k"]) (sc := defScope st_law) (by decide +kernel)) hg ht he) (ei_sq rfl (eo_v 5 (pv 5))) (by decide) (fun H0 F0 io s1 H1 C1 cl1 fp1 => (eg_n 14 (pg_name (i := 14) sc_law.nd rfl (Or.inl rfl)))) (fun H0 F0 io s1 H1 C1 cl1 fp1 => (ets_one (et_cmp (op_neD (hu64 hr)) l2_ne (eo_v 14 (pv 14)) (eo_v 7 (pv 7)) (nomark _)))) (fun H0 F0 io s1 H1 C1 cl1 fp1 => (eo_v 14 (pv 14))))) ea_nil))) (eg_t (egs_cons (eg_n 4 (pg_name (i := 4) sc_law.nd rfl (Or.inr rfl))) (egs_cons (eg_n 5 (pg_name (i := 5) sc_law.nd rfl (Or.inl rfl))) egs_nil (fun h h1 => pgs_cons h h1)) (fun h h1 => pgs_cons h h1)) (fun h => pg_tup (by rfl) h) rfl)) ess_nil))) (ess_cons (es_asg (fun h hg => ps_asg h hg) (eo_callI (fun h => pe_call G__law_taken (hr.mono (by decide)) (by rfl) D__law_taken.mg D__law_taken.fn.kp D__law_taken.b .nil pass0 h) (ea_cons (eo_b 1 (pv 1)) (ea_cons (eo_v 2 (pv 2)) ea_nil))) (eg_n 8 (pg_name (i := 8) sc_law.nd rfl (Or.inr rfl)))) (ess_cons (es_asg (fun h hg => ps_asg h hg) (eo_bn (fun h => pe_callTy call_tupF (by rfl) B.n_tuple (by decide +kernel) h) ln_tup (ea_cons (eo_fr (ef_comp (own := [("k", 14)]) (fun wi hg ht he => pe_lc (own := [("k", 14)]) rfl sc_law.nd wi (blkOk_by (N := ["script", "row", "arms", "length", "order", "left", "turn", "one", "arm", "lines", "places", "chart", "less", "other", "k"]) (sc := defScope st_law) (by decide +kernel)) hg ht he) (ei_rg1 (fun h => pi_range1 (by rfl) B.n_range h) (ea_cons (eo_v 2 (pv 2)) ea_nil)) (by decide) (fun H0 F0 io s1 H1 C1 cl1 fp1 => (eg_n 14 (pg_name (i := 14) sc_law.nd rfl (Or.inl rfl)))) (fun H0 F0 io s1 H1 C1 cl1 fp1 => ets_nil) (fun H0 F0 io s1 H1 C1 cl1 fp1 => (eo_if (et_cmp (op_eqD (hu64 hr)) l2_eq (eo_v 14 (pv 14)) (eo_v 8 (pv 8)) (nomark _)) (eo_bn (fun h => pe_callTy call_tupF (by rfl) B.n_tuple (by decide +kernel) h) ln_tup (ea_cons (eo_slice rfl (fun h hl hh => pe_slice sl_D h hl hh) (eo_v 4 (pv 4)) (ep_some eo_int) ep_none) ea_nil)) (eo_tup ea_nil))))) ea_nil)) (eg_n 9 (pg_name (i := 9) sc_law.nd rfl (Or.inl rfl)))) (ess_cons (es_asg (fun h hg => ps_asg h hg) (eo_bn (fun h => pe_callTy call_tupF (by rfl) B.n_tuple (by decide +kernel) h) ln_tup (ea_cons (eo_fr (ef_comp (own := [("k", 14)]) (fun wi hg ht he => pe_lc (own := [("k", 14)]) rfl sc_law.nd wi (blkOk_by (N := ["script", "row", "arms", "length", "order", "left", "turn", "one", "arm", "lines", "places", "chart", "less", "other", "k"]) (sc := defScope st_law) (by decide +kernel)) hg ht he) (ei_rg1 (fun h => pi_range1 (by rfl) B.n_range h) (ea_cons (eo_v 2 (pv 2)) ea_nil)) (by decide) (fun H0 F0 io s1 H1 C1 cl1 fp1 => (eg_n 14 (pg_name (i := 14) sc_law.nd rfl (Or.inl rfl)))) (fun H0 F0 io s1 H1 C1 cl1 fp1 => ets_nil) (fun H0 F0 io s1 H1 C1 cl1 fp1 => (eo_if (et_cmp (op_eqD (hu64 hr)) l2_eq (eo_v 14 (pv 14)) (eo_v 8 (pv 8)) (nomark _)) (eo_tupRg (fun h => pe_tupRgF (by rfl) (by rfl) B.n_tuple h) (er_1 (fun h => prg_1 (by rfl) B.n_range h) (eo_v 3 (pv 3)))) (eo_tup ea_nil))))) ea_nil)) (eg_n 10 (pg_name (i := 10) sc_law.nd rfl (Or.inl rfl)))) (ess_cons (es_asg (fun h hg => ps_asg h hg) (eo_call (fun h => pe_call G_from_orders (hr.mono (by decide)) (by rfl) D_from_orders.mg D_from_orders.fn.kp D_from_orders.b .nil pass0 h) (ea_cons (eo_v 3 (pv 3)) (ea_cons (eo_ix ix_seq l2_ix (eo_v 4 (pv 4)) eo_int (fun _ _ => rfl)) (ea_cons (eo_v 9 (pv 9)) (ea_cons (eo_v 10 (pv 10)) ea_nil)))) fun _ => .nil) (eg_n 11 (pg_name (i := 11) sc_law.nd rfl (Or.inl rfl)))) (ess_cons (es_if (et_w (ew_or (et_cmp op_isA l2_is (eo_v 11 (pv 11)) eo_non (nomark _)) (ew_or (et_cmp (op_neD (hu64 hr)) l2_ne (eo_call (fun h => pe_call G_takings (hr.mono (by decide)) (by rfl) D_takings.mg D_takings.fn.kp D_takings.b .nil pass0 h) (ea_cons (eo_v 11 (pv 11)) ea_nil) fun _ => .nil) (eo_tup ea_nil) (nomark _)) (ew_or (et_cmp (op_neD (hu64 hr)) l2_ne (eo_call (fun h => pe_call G_class_size (hr.mono (by decide)) (by rfl) D_class_size.mg D_class_size.fn.kp D_class_size.b .nil pass0 h) (ea_cons (eo_v 11 (pv 11)) ea_nil) fun _ => .nil) eo_int (nomark _)) (ew_or (et_cmp (op_neD (hu64 hr)) l2_ne (eo_call (fun h => pe_call G_farthest (hr.mono (by decide)) (by rfl) D_farthest.mg D_farthest.fn.kp D_farthest.b .nil pass0 h) (ea_cons (eo_v 11 (pv 11)) ea_nil) fun _ => .nil) eo_int (nomark _)) (ew_or (et_cmp op_isNotA l2_isNot (eo_call (fun h => pe_call G_is_frozen (hr.mono (by decide)) (by rfl) D_is_frozen.mg D_is_frozen.fn.kp D_is_frozen.b .nil pass0 h) (ea_cons (eo_v 11 (pv 11)) ea_nil) fun _ => .nil) eo_bl (nomark _)) (ew_or1 (et_cmp op_isNotA l2_isNot (eo_call (fun h => pe_call G_own_lands (hr.mono (by decide)) (by rfl) D_own_lands.mg D_own_lands.fn.kp D_own_lands.b .nil pass0 h) (ea_cons (eo_v 11 (pv 11)) ea_nil) fun _ => .nil) eo_non (nomark _))))))))) (ess_cons (es_ret eo_bl) ess_nil) ess_nil) (ess_cons (es_if (et_w (ew_or (et_cmp (op_neD (hu64 hr)) l2_ne (eo_call (fun h => pe_call G_orders (hr.mono (by decide)) (by rfl) D_orders.mg D_orders.fn.kp D_orders.b .nil pass0 h) (ea_cons (eo_v 11 (pv 11)) ea_nil) fun _ => .nil) (eo_v 9 (pv 9)) (nomark _)) (ew_or (et_cmp (op_neD (hu64 hr)) l2_ne (eo_call (fun h => pe_call G_border_places (hr.mono (by decide)) (by rfl) D_border_places.mg D_border_places.fn.kp D_border_places.b .nil pass0 h) (ea_cons (eo_v 11 (pv 11)) ea_nil) fun _ => .nil) (eo_v 10 (pv 10)) (nomark _)) (ew_or (et_cmp (op_neD (hu64 hr)) l2_ne (eo_ix ix_seq l2_ix (eo_call (fun h => pe_call G_lands_on (hr.mono (by decide)) (by rfl) D_lands_on.mg D_lands_on.fn.kp D_lands_on.b .nil pass0 h) (ea_cons (eo_v 11 (pv 11)) ea_nil) fun _ => .nil) (eo_v 8 (pv 8)) (fun _ _ => rfl)) (eo_v 3 (pv 3)) (nomark _)) (ew_or1 (et_cmp (op_neD (hu64 hr)) l2_ne (eo_ix ix_seq l2_ix (eo_call (fun h => pe_call G_areas (hr.mono (by decide)) (by rfl) D_areas.mg D_areas.fn.kp D_areas.b .nil pass0 h) (ea_cons (eo_v 11 (pv 11)) ea_nil) fun _ => .nil) (eo_ix ix_seq l2_ix (eo_v 4 (pv 4)) eo_int (fun _ _ => rfl)) (fun _ _ => rfl)) (eo_op op_add3 l2_add3 (eo_op op_mulB l2_mul (eo_op op_sub l2_sub (eo_v 2 (pv 2)) eo_int) (eo_v 3 (pv 3))) eo_int) (nomark _))))))) (ess_cons (es_ret eo_bl) ess_nil) ess_nil) (ess_cons (es_if (et_cmp (op_eqD (hu64 hr)) l2_eq (eo_v 3 (pv 3)) eo_int (nomark _)) (ess_cons (es_ret (eo_cmp (op_eqD (hu64 hr)) l2_eq (eo_ix ix_seq l2_ix (eo_call (fun h => pe_call G_areas (hr.mono (by decide)) (by rfl) D_areas.mg D_areas.fn.kp D_areas.b .nil pass0 h) (ea_cons (eo_v 11 (pv 11)) ea_nil) fun _ => .nil) (eo_ix ix_seq l2_ix (eo_v 4 (pv 4)) eo_int (fun _ _ => rfl)) (fun _ _ => rfl)) eo_int (nomark _))) ess_nil) ess_nil) (ess_cons (es_asg (fun h hg => ps_asg h hg) (eo_bn (fun h => pe_callTy call_tupF (by rfl) B.n_tuple (by decide +kernel) h) ln_tup (ea_cons (eo_fr (ef_comp (own := [("k", 14)]) (fun wi hg ht he => pe_lc (own := [("k", 14)]) rfl sc_law.nd wi (blkOk_by (N := ["script", "row", "arms", "length", "order", "left", "turn", "one", "arm", "lines", "places", "chart", "less", "other", "k"]) (sc := defScope st_law) (by decide +kernel)) hg ht he) (ei_rg1 (fun h => pi_range1 (by rfl) B.n_range h) (ea_cons (eo_v 2 (pv 2)) ea_nil)) (by decide) (fun H0 F0 io s1 H1 C1 cl1 fp1 => (eg_n 14 (pg_name (i := 14) sc_law.nd rfl (Or.inl rfl)))) (fun H0 F0 io s1 H1 C1 cl1 fp1 => ets_nil) (fun H0 F0 io s1 H1 C1 cl1 fp1 => (eo_if (et_cmp (op_eqD (hu64 hr)) l2_eq (eo_v 14 (pv 14)) (eo_v 8 (pv 8)) (nomark _)) (eo_bn (fun h => pe_callTy call_tupF (by rfl) B.n_tuple (by decide +kernel) h) ln_tup (ea_cons (eo_slice rfl (fun h hl hh => pe_slice sl_D h hl hh) (eo_v 4 (pv 4)) (ep_some eo_int) (ep_some (eo_v 3 (pv 3)))) ea_nil)) (eo_tup ea_nil))))) ea_nil)) (eg_n 12 (pg_name (i := 12) sc_law.nd rfl (Or.inl rfl)))) (ess_cons (es_if (et_cmp (op_neD (hu64 hr)) l2_ne (eo_ix ix_seq l2_ix (eo_v 4 (pv 4)) (eo_v 3 (pv 3)) (fun _ _ => rfl)) (eo_v 3 (pv 3)) (nomark _)) (ess_cons (es_ret (eo_cmp op_isA l2_is (eo_call (fun h => pe_call G_from_orders (hr.mono (by decide)) (by rfl) D_from_orders.mg D_from_orders.fn.kp D_from_orders.b .nil pass0 h) (ea_cons (eo_v 3 (pv 3)) (ea_cons (eo_ix ix_seq l2_ix (eo_v 4 (pv 4)) eo_int (fun _ _ => rfl)) (ea_cons (eo_v 12 (pv 12)) (ea_cons (eo_bn (fun h => pe_callTy call_tupF (by rfl) B.n_tuple (by decide +kernel) h) ln_tup (ea_cons (eo_fr (ef_comp (own := [("k", 14)]) (fun wi hg ht he => pe_lc (own := [("k", 14)]) rfl sc_law.nd wi (blkOk_by (N := ["script", "row", "arms", "length", "order", "left", "turn", "one", "arm", "lines", "places", "chart", "less", "other", "k"]) (sc := defScope st_law) (by decide +kernel)) hg ht he) (ei_rg1 (fun h => pi_range1 (by rfl) B.n_range h) (ea_cons (eo_v 2 (pv 2)) ea_nil)) (by decide) (fun H0 F0 io s1 H1 C1 cl1 fp1 => (eg_n 14 (pg_name (i := 14) sc_law.nd rfl (Or.inl rfl)))) (fun H0 F0 io s1 H1 C1 cl1 fp1 => ets_nil) (fun H0 F0 io s1 H1 C1 cl1 fp1 => (eo_if (et_cmp (op_eqD (hu64 hr)) l2_eq (eo_v 14 (pv 14)) (eo_v 8 (pv 8)) (nomark _)) (eo_tupRg (fun h => pe_tupRgF (by rfl) (by rfl) B.n_tuple h) (er_1 (fun h => prg_1 (by rfl) B.n_range h) (eo_op op_sub l2_sub (eo_v 3 (pv 3)) eo_int))) (eo_tup ea_nil))))) ea_nil)) ea_nil)))) fun _ => .nil) eo_non (nomark _))) ess_nil) ess_nil) (ess_cons (es_asg (fun h hg => ps_asg h hg) (eo_call (fun h => pe_call G_from_orders (hr.mono (by decide)) (by rfl) D_from_orders.mg D_from_orders.fn.kp D_from_orders.b .nil pass0 h) (ea_cons (eo_v 3 (pv 3)) (ea_cons (eo_ix ix_seq l2_ix (eo_v 4 (pv 4)) eo_int (fun _ _ => rfl)) (ea_cons (eo_v 12 (pv 12)) (ea_cons (eo_bn (fun h => pe_callTy call_tupF (by rfl) B.n_tuple (by decide +kernel) h) ln_tup (ea_cons (eo_fr (ef_comp (own := [("k", 14)]) (fun wi hg ht he => pe_lc (own := [("k", 14)]) rfl sc_law.nd wi (blkOk_by (N := ["script", "row", "arms", "length", "order", "left", "turn", "one", "arm", "lines", "places", "chart", "less", "other", "k"]) (sc := defScope st_law) (by decide +kernel)) hg ht he) (ei_rg1 (fun h => pi_range1 (by rfl) B.n_range h) (ea_cons (eo_v 2 (pv 2)) ea_nil)) (by decide) (fun H0 F0 io s1 H1 C1 cl1 fp1 => (eg_n 14 (pg_name (i := 14) sc_law.nd rfl (Or.inl rfl)))) (fun H0 F0 io s1 H1 C1 cl1 fp1 => ets_nil) (fun H0 F0 io s1 H1 C1 cl1 fp1 => (eo_if (et_cmp (op_eqD (hu64 hr)) l2_eq (eo_v 14 (pv 14)) (eo_v 8 (pv 8)) (nomark _)) (eo_tupRg (fun h => pe_tupRgF (by rfl) (by rfl) B.n_tuple h) (er_1 (fun h => prg_1 (by rfl) B.n_range h) (eo_op op_sub l2_sub (eo_v 3 (pv 3)) eo_int))) (eo_tup ea_nil))))) ea_nil)) ea_nil)))) fun _ => .nil) (eg_n 13 (pg_name (i := 13) sc_law.nd rfl (Or.inl rfl)))) (ess_cons (es_if (et_w (ew_or (et_cmp op_isA l2_is (eo_v 13 (pv 13)) eo_non (nomark _)) (ew_or (et_cmp (op_neD (hu64 hr)) l2_ne (eo_call (fun h => pe_call G_class_size (hr.mono (by decide)) (by rfl) D_class_size.mg D_class_size.fn.kp D_class_size.b .nil pass0 h) (ea_cons (eo_v 13 (pv 13)) ea_nil) fun _ => .nil) (eo_v 3 (pv 3)) (nomark _)) (ew_or (et_cmp (op_neD (hu64 hr)) l2_ne (eo_call (fun h => pe_call G_farthest (hr.mono (by decide)) (by rfl) D_farthest.mg D_farthest.fn.kp D_farthest.b .nil pass0 h) (ea_cons (eo_v 13 (pv 13)) ea_nil) fun _ => .nil) (eo_op op_sub l2_sub (eo_v 3 (pv 3)) eo_int) (nomark _)) (ew_or1 (et_cmp (op_neD (hu64 hr)) l2_ne (eo_bn (fun h => pe_callB call_len_seq (by rfl) B.n_len PySem.boot_len h) ln_len (ea_cons (eo_call (fun h => pe_call G_takings (hr.mono (by decide)) (by rfl) D_takings.mg D_takings.fn.kp D_takings.b .nil pass0 h) (ea_cons (eo_v 13 (pv 13)) ea_nil) fun _ => .nil) ea_nil)) eo_int (nomark _))))))) (ess_cons (es_ret eo_bl) ess_nil) ess_nil) (ess_cons (es_ret (eo_cmp (op_eqD (hu64 hr)) l2_eq (eo_call (fun h => pe_call G_takings (hr.mono (by decide)) (by rfl) D_takings.mg D_takings.fn.kp D_takings.b .nil pass0 h) (ea_cons (eo_v 13 (pv 13)) ea_nil) fun _ => .nil) (eo_tup (ea_cons (eo_tup (ea_cons (eo_if (et_cmp op_gt l2_gt (eo_v 3 (pv 3)) eo_int (nomark _)) (eo_ix ix_seq l2_ix (eo_v 4 (pv 4)) (eo_op op_sub l2_sub (eo_v 3 (pv 3)) eo_int) (fun _ _ => rfl)) (eo_ix ix_seq l2_ix (eo_v 4 (pv 4)) eo_int (fun _ _ => rfl))) (ea_cons (eo_op op_sub l2_sub (eo_op op_add3 l2_add3 (eo_op op_add3 l2_add3 eo_int (eo_op op_mulB l2_mul (eo_v 8 (pv 8)) (eo_v 3 (pv 3)))) (eo_v 3 (pv 3))) eo_int) ea_nil))) ea_nil)) (nomark _))) ess_nil))))))))))))))))
end
end S89

namespace S89
open PySem PD
theorem fAdd_int (i j : Int) : fAdd (.int i) (.int j) = some (.int (i + j)) := rfl
/-- the combinators, opened -/
theorem whole_int (i : Int) : p_is_whole [.int i] = some (.bool true) := by rfl
theorem integer_int (i a b : Int) : p_is_integer [.int i, .int a, .int b] = some (.bool (decide (a ≤ i ∧ i ≤ b))) := by
  unfold p_is_integer g_is_integer
  simp [bodyP, bodyI, startE, startI, sSeq, sRet, sAsg, sExp, sIfS, sNx, sV, sB, sC, PD.s2, toT, sTr, truth, bne_dec, sChain, sAnd, sOr, sNot, sIf, tAnd', tOr', tNot', sNil, sCons, sCall, allD, sN, allR, PD.res, sTup, sLst, sFr, gN, gT, gsNil, gsCons, sIsi, tyName, isSub, sOrE, sM1, sM1T, fAdd_int, fSub, fLe, fLt, fGt, fGe, eq_int, ne_int, cont?, setCont, List.replicate, fLen, sOwn, sApp, whole_int]
  by_cases h : a ≤ i <;> simp [h]
theorem pair_tup (xs : List PyData) : p_is_pair [.tuple xs] = some (.bool (decide (xs.length = 2))) := by
  unfold p_is_pair g_is_pair
  simp [bodyP, bodyI, startE, startI, sSeq, sRet, sAsg, sExp, sIfS, sNx, sV, sB, sC, PD.s2, toT, sTr, truth, bne_dec, sChain, sAnd, sOr, sNot, sIf, tAnd', tOr', tNot', sNil, sCons, sCall, allD, sN, allR, PD.res, sTup, sLst, sFr, gN, gT, gsNil, gsCons, sIsi, tyName, isSub, sOrE, sM1, sM1T, fAdd_int, fSub, fLe, fLt, fGt, fGe, eq_int, ne_int, cont?, setCont, List.replicate, fLen, sOwn, sApp]
  omega
/-- the cell inward of c (c not the hub) -/
def inner (n c : Nat) : Nat := if (c - 1) % n = 0 then 0 else c - 1
theorem cast_pred {c : Nat} (hc : 0 < c) : (c : Int) - 1 = ((c - 1 : Nat) : Int) := by omega
theorem emod_zero {c n : Nat} : ((c : Int) % (n : Int) = 0) ↔ c % n = 0 := by
  rw [← Int.natCast_emod]
  omega
theorem inner_cell {n c : Nat} (hn : 0 < n) (hc : 0 < c) : p_inner_cell [iN n, iN c] = some (iN (inner n c)) := by
  unfold p_inner_cell g_inner_cell inner
  by_cases h : (c - 1) % n = 0
  · have h' : ((c - 1 : Nat) : Int) % (n : Int) = 0 := emod_zero.mpr h
    simp [bodyP, bodyI, startE, startI, sSeq, sRet, sAsg, sExp, sIfS, sNx, sV, sB, sC, PD.s2, toT, sTr, truth, bne_dec, sChain, sAnd, sOr, sNot, sIf, tAnd', tOr', tNot', sNil, sCons, sCall, allD, sN, allR, PD.res, sTup, sLst, sFr, gN, gT, gsNil, gsCons, sIsi, tyName, isSub, sOrE, sM1, sM1T, fAdd_int, fSub, fLe, fLt, fGt, fGe, eq_int, ne_int, cont?, setCont, List.replicate, fLen, sOwn, sApp, fMod, hn, cast_pred hc, h, h']
  · have h' : ¬ ((c - 1 : Nat) : Int) % (n : Int) = 0 := fun z => h (emod_zero.mp z)
    simp [bodyP, bodyI, startE, startI, sSeq, sRet, sAsg, sExp, sIfS, sNx, sV, sB, sC, PD.s2, toT, sTr, truth, bne_dec, sChain, sAnd, sOr, sNot, sIf, tAnd', tOr', tNot', sNil, sCons, sCall, allD, sN, allR, PD.res, sTup, sLst, sFr, gN, gT, gsNil, gsCons, sIsi, tyName, isSub, sOrE, sM1, sM1T, fAdd_int, fSub, fLe, fLt, fGt, fGe, eq_int, ne_int, cont?, setCont, List.replicate, fLen, sOwn, sApp, fMod, hn, cast_pred hc, h, h']
end S89
namespace S89
open PySem PD
/-- a map: arms and cells -/
abbrev ch (a : Nat) (cells : List Nat) : PyData := .tuple [iN a, tN cells]
abbrev tk (l c : Nat) : PyData := .tuple [iN l, iN c]
theorem ix0 (x y : PyData) : fIx (.tuple [x, y]) (.int 0) = some x := by rfl
theorem ix1 (x y : PyData) : fIx (.tuple [x, y]) (.int 1) = some y := by rfl
theorem length_of {a : Nat} {cells : List Nat} (h : 0 < cells.length) (ha : 0 < a) (ha2 : a < 1000) : p_length_of [ch a cells] = some (iN ((cells.length - 1) / a)) := by
  have e := fDiv_small ((cells.length - 1 : Nat) : Int) (a : Int) (by omega)
  unfold p_length_of g_length_of
  simp [bodyP, bodyI, startE, startI, sSeq, sRet, sAsg, sExp, sIfS, sNx, sV, sB, sC, PD.s2, toT, sTr, truth, bne_dec, sChain, sAnd, sOr, sNot, sIf, tAnd', tOr', tNot', sNil, sCons, sCall, allD, sN, allR, PD.res, sTup, sLst, sFr, gN, gT, gsNil, gsCons, sIsi, tyName, isSub, sOrE, sM1, sM1T, fAdd_int, fSub, fLe, fLt, fGt, fGe, eq_int, ne_int, cont?, setCont, List.replicate, fLen, sOwn, sApp, ix0, ix1, cast_pred h, e]
/-- the cells that c touches -/
def nbr (a n c : Nat) : List Nat := if c = 0 then (List.range a).map fun k => 1 + k * n else if c % n = 0 then [inner n c] else [inner n c, c + 1]
theorem touching_cells {a n c : Nat} (hn : 0 < n) (hn2 : n < 1000) (ha : a < 1000) : p_touching_cells [iN a, iN n, iN c] = some (tN (nbr a n c)) := by
  unfold p_touching_cells g_touching_cells
  by_cases hc : c = 0
  · subst hc
    have e : c1_touching_cells [.dat (iN a), .dat (iN n), .dat (iN 0), .un, .un] = some ((List.range a).map fun k => iN (1 + k * n), [.dat (iN a), .dat (iN n), .dat (iN 0), .un, .un]) := by
      refine sComp_all (List.range a) iN (fun k => iN (1 + k * n)) (sRg1_small rfl (by omega)) rfl (by simp; omega) rfl fun k hk => ?_
      have hk := List.mem_range.mp hk
      refine ⟨_, rfl, rfl, ?_⟩
      simp [bodyP, bodyI, startE, startI, sSeq, sRet, sAsg, sExp, sIfS, sNx, sV, sB, sC, PD.s2, toT, sTr, truth, bne_dec, sChain, sAnd, sOr, sNot, sIf, tAnd', tOr', tNot', sNil, sCons, sCall, allD, sN, allR, PD.res, sTup, sLst, sFr, gN, gT, gsNil, gsCons, sIsi, tyName, isSub, sOrE, sM1, sM1T, fAdd_int, fSub, fLe, fLt, fGt, fGe, eq_int, ne_int, cont?, setCont, List.replicate, fLen, sOwn, sApp, wipeE, fMul_small (k : Int) (n : Int) (by omega)]
    simp [bodyP, bodyI, startE, startI, sSeq, sRet, sAsg, sExp, sIfS, sNx, sV, sB, sC, PD.s2, toT, sTr, truth, bne_dec, sChain, sAnd, sOr, sNot, sIf, tAnd', tOr', tNot', sNil, sCons, sCall, allD, sN, allR, PD.res, sTup, sLst, sFr, gN, gT, gsNil, gsCons, sIsi, tyName, isSub, sOrE, sM1, sM1T, fAdd_int, fSub, fLe, fLt, fGt, fGe, eq_int, ne_int, cont?, setCont, List.replicate, fLen, sOwn, sApp, e, fTupOf, nbr]
  · have hz : ¬ (c : Int) = 0 := by omega
    by_cases h : c % n = 0
    · have h' : (c : Int) % (n : Int) = 0 := emod_zero.mpr h
      simp [bodyP, bodyI, startE, startI, sSeq, sRet, sAsg, sExp, sIfS, sNx, sV, sB, sC, PD.s2, toT, sTr, truth, bne_dec, sChain, sAnd, sOr, sNot, sIf, tAnd', tOr', tNot', sNil, sCons, sCall, allD, sN, allR, PD.res, sTup, sLst, sFr, gN, gT, gsNil, gsCons, sIsi, tyName, isSub, sOrE, sM1, sM1T, fAdd_int, fSub, fLe, fLt, fGt, fGe, eq_int, ne_int, cont?, setCont, List.replicate, fLen, sOwn, sApp, hz, hc, fMod, hn, h, h', inner_cell hn (by omega : 0 < c), nbr]
    · have h' : ¬ (c : Int) % (n : Int) = 0 := fun z => h (emod_zero.mp z)
      simp [bodyP, bodyI, startE, startI, sSeq, sRet, sAsg, sExp, sIfS, sNx, sV, sB, sC, PD.s2, toT, sTr, truth, bne_dec, sChain, sAnd, sOr, sNot, sIf, tAnd', tOr', tNot', sNil, sCons, sCall, allD, sN, allR, PD.res, sTup, sLst, sFr, gN, gT, gsNil, gsCons, sIsi, tyName, isSub, sOrE, sM1, sM1T, fAdd_int, fSub, fLe, fLt, fGt, fGe, eq_int, ne_int, cont?, setCont, List.replicate, fLen, sOwn, sApp, hz, hc, fMod, hn, h, h', inner_cell hn (by omega : 0 < c), nbr]
end S89
namespace S89
open PySem PD
theorem touch_table {a : Nat} {cells : List Nat} (h : 0 < cells.length) (ha : 0 < a) (ha2 : a < 1000) (hn : 0 < (cells.length - 1) / a) (hc : cells.length < 1000) :
    p_touch_table [ch a cells] = some (.list ((List.range cells.length).map fun c => tN (nbr a ((cells.length - 1) / a) c))) := by
  have hn2 : (cells.length - 1) / a < 1000 := Nat.lt_of_le_of_lt (Nat.div_le_self _ _) (by omega)
  have e : c1_touch_table [.dat (ch a cells), .dat (iN a), .dat (tN cells), .dat (iN ((cells.length - 1) / a)), .un] = some ((List.range cells.length).map fun c => tN (nbr a ((cells.length - 1) / a) c), [.dat (ch a cells), .dat (iN a), .dat (tN cells), .dat (iN ((cells.length - 1) / a)), .un]) := by
    refine sComp_all (List.range cells.length) iN _ (sRg1_small (by simp [bodyP, bodyI, startE, startI, sSeq, sRet, sAsg, sExp, sIfS, sNx, sV, sB, sC, PD.s2, toT, sTr, truth, bne_dec, sChain, sAnd, sOr, sNot, sIf, tAnd', tOr', tNot', sNil, sCons, sCall, allD, sN, allR, PD.res, sTup, sLst, sFr, gN, gT, gsNil, gsCons, sIsi, tyName, isSub, sOrE, sM1, sM1T, fAdd_int, fSub, fLe, fLt, fGt, fGe, eq_int, ne_int, cont?, setCont, List.replicate, fLen, sOwn, sApp]) (by omega)) rfl (by simp; omega) rfl fun k hk => ?_
    have hk := List.mem_range.mp hk
    refine ⟨_, rfl, rfl, ?_⟩
    simp [bodyP, bodyI, startE, startI, sSeq, sRet, sAsg, sExp, sIfS, sNx, sV, sB, sC, PD.s2, toT, sTr, truth, bne_dec, sChain, sAnd, sOr, sNot, sIf, tAnd', tOr', tNot', sNil, sCons, sCall, allD, sN, allR, PD.res, sTup, sLst, sFr, gN, gT, gsNil, gsCons, sIsi, tyName, isSub, sOrE, sM1, sM1T, fAdd_int, fSub, fLe, fLt, fGt, fGe, eq_int, ne_int, cont?, setCont, List.replicate, fLen, sOwn, sApp, wipeE, touching_cells hn hn2 ha2]
  unfold p_touch_table g_touch_table
  simp [bodyP, bodyI, startE, startI, sSeq, sRet, sAsg, sExp, sIfS, sNx, sV, sB, sC, PD.s2, toT, sTr, truth, bne_dec, sChain, sAnd, sOr, sNot, sIf, tAnd', tOr', tNot', sNil, sCons, sCall, allD, sN, allR, PD.res, sTup, sLst, sFr, gN, gT, gsNil, gsCons, sIsi, tyName, isSub, sOrE, sM1, sM1T, fAdd_int, fSub, fLe, fLt, fGt, fGe, eq_int, ne_int, cont?, setCont, List.replicate, fLen, sOwn, sApp, length_of h ha ha2, e]
theorem can_lose (l : Nat) (near : List Nat) : p_can_lose [iN l, lN near] = some (.bool (decide (near.count l = 1))) := by
  unfold p_can_lose g_can_lose
  simp [bodyP, bodyI, startE, startI, sSeq, sRet, sAsg, sExp, sIfS, sNx, sV, sB, sC, PD.s2, toT, sTr, truth, bne_dec, sChain, sAnd, sOr, sNot, sIf, tAnd', tOr', tNot', sNil, sCons, sCall, allD, sN, allR, PD.res, sTup, sLst, sFr, gN, gT, gsNil, gsCons, sIsi, tyName, isSub, sOrE, sM1, sM1T, fAdd_int, fSub, fLe, fLt, fGt, fGe, eq_int, ne_int, cont?, setCont, List.replicate, fLen, sOwn, sApp, fCount_nat]
  omega
end S89
namespace S89
open PySem PD
/-- the land of a cell -/
def ca (cells : List Nat) (c : Nat) : Nat := cells.getD c 0
/-- the lands at places -/
def near (cells ps : List Nat) : List Nat := ps.map (ca cells)
/-- land may take the cell, whose touching places are ps -/
def canMk (ps cells : List Nat) (land cell : Nat) : Bool := decide (land ≠ ca cells cell) && (decide (land ∈ near cells ps) && decide ((near cells ps).count (ca cells cell) = 1))
theorem ca_some {xs : List Nat} {i : Nat} (h : i < xs.length) : xs[i]? = some (ca xs i) := by
  unfold ca
  rw [List.getD_eq_getElem?_getD, List.getElem?_eq_getElem h]
  rfl
end S89
namespace S89
open PySem PD
/-- the places i such that i + 1 begins a land of its own -/
def crs (n : Nat) (cells : List Nat) : List Nat := (List.range (cells.length - 1)).filter fun i => decide (¬ ca cells (i + 1) = ca cells (inner n (i + 1)))
/-- a map of a arms of n cells, m lands -/
structure Valid (a n m : Nat) (cells : List Nat) : Prop where
  ha : 3 ≤ a ∧ a ≤ 4
  hn : 1 ≤ n ∧ n ≤ 4
  hm : 2 ≤ m ∧ m ≤ n + 1
  len : cells.length = 1 + a * n
  lt : ∀ v ∈ cells, v < m
  cov : ∀ v, v < m → v ∈ cells
  cr : (crs n cells).length + 1 = m
section
variable {a n m : Nat} {cells : List Nat}
theorem Valid.len_lt (V : Valid a n m cells) : 0 < cells.length ∧ cells.length ≤ 17 := by
  have h1 := V.ha
  have h2 := V.hn
  have h3 := V.len
  have : a * n ≤ 4 * 4 := Nat.mul_le_mul h1.2 h2.2
  omega
theorem Valid.div (V : Valid a n m cells) : (cells.length - 1) / a = n := by
  have h1 := V.ha
  rw [V.len, Nat.add_sub_cancel_left, Nat.mul_comm, Nat.mul_div_cancel _ (by omega)]
theorem foldl_max_le (r : List Nat) : ∀ x b : Nat, x ≤ b → (∀ v ∈ r, v ≤ b) → r.foldl max x ≤ b := by
  induction r with
  | nil => intro x b h _; exact h
  | cons y r ih =>
    intro x b h h2
    exact ih _ b (Nat.max_le.mpr ⟨h, h2 y (by simp)⟩) fun v hv => h2 v (by simp [hv])
theorem le_foldl_max (r : List Nat) : ∀ x : Nat, x ≤ r.foldl max x ∧ ∀ v ∈ r, v ≤ r.foldl max x := by
  induction r with
  | nil => intro x; exact ⟨Nat.le_refl _, fun v hv => by cases hv⟩
  | cons y r ih =>
    intro x
    obtain ⟨h1, h2⟩ := ih (max x y)
    refine ⟨Nat.le_trans (Nat.le_max_left _ _) h1, fun v hv => ?_⟩
    rcases List.mem_cons.mp hv with rfl | hv
    · exact Nat.le_trans (Nat.le_max_right _ _) h1
    · exact h2 v hv
theorem Valid.maxN (V : Valid a n m cells) : maxN cells = m - 1 := by
  have hm := V.hm
  apply Nat.le_antisymm
  · exact foldl_max_le cells 0 _ (Nat.zero_le _) fun v hv => by have := V.lt v hv; omega
  · exact (le_foldl_max cells 0).2 _ (V.cov (m - 1) (by omega))
theorem Valid.nub (V : Valid a n m cells) : (nubI (cells.map fun (n : Nat) => (n : Int))).length = m := by
  have e : ((List.range m).map fun (n : Nat) => (n : Int)).length = m := by simp
  rw [← e]
  refine nodup_len (nubI_nodup _) ?_ fun k => ?_
  · exact List.Pairwise.map _ (fun x y h => by omega) (List.nodup_range (n := m))
  · rw [nubI_mem]
    constructor
    · intro h
      obtain ⟨v, hv, rfl⟩ := List.mem_map.mp h
      exact List.mem_map.mpr ⟨v, List.mem_range.mpr (V.lt v hv), rfl⟩
    · intro h
      obtain ⟨v, hv, rfl⟩ := List.mem_map.mp h
      exact List.mem_map.mpr ⟨v, V.cov v (List.mem_range.mp hv), rfl⟩
theorem inner_lt {n c : Nat} (h : 0 < c) : inner n c < c := by
  unfold inner
  split <;> omega
theorem Valid.hang (V : Valid a n m cells) : p_hang_together [iN n, tN cells] = some (.bool true) := by
  have hl := V.len_lt
  have hn := V.hn
  have hm := V.hm
  have ne : cells ≠ [] := fun z => by rw [z] at hl; simp at hl
  have e0 : sLenSet (sV 1) [.dat (iN n), .dat (tN cells), .dat (iN m), .un, .un] = some (.d (iN m), [.dat (iN n), .dat (tN cells), .dat (iN m), .un, .un]) := by
    show (match intsOf (cells.map iN) with | some ns => if ns.length ≤ 4000 then some (Ob.d (.int (nubI ns).length), _) else none | none => none) = _
    rw [intsOf_nat]
    show (if _ then _ else _) = _
    rw [if_pos (by simp; omega), V.nub]
  have e : c1_hang_together [.dat (iN n), .dat (tN cells), .dat (iN m), .un, .un] = some ((crs n cells).map (fun i => iN (i + 1)), [.dat (iN n), .dat (tN cells), .dat (iN m), .un, .un]) := by
    refine sComp_on (List.range (cells.length - 1)) (fun i => iN (i + 1)) (fun i => iN (i + 1)) _ (sRg2_small (by simp [bodyP, bodyI, startE, startI, sSeq, sRet, sAsg, sExp, sIfS, sNx, sV, sB, sC, PD.s2, toT, sTr, truth, bne_dec, sChain, sAnd, sOr, sNot, sIf, tAnd', tOr', tNot', sNil, sCons, sCall, allD, sN, allR, PD.res, sTup, sLst, sFr, gN, gT, gsNil, gsCons, sIsi, tyName, isSub, sOrE, sM1, sM1T, fAdd_int, fSub, fLe, fLt, fGt, fGe, eq_int, ne_int, cont?, setCont, List.replicate, fLen, sOwn, sApp]) (by omega)) rfl (by simp; omega) rfl fun i hi => ?_
    have hi := List.mem_range.mp hi
    have q1 := (ix_map (f := iN) (ca_some (by omega : i + 1 < cells.length))).2
    have q2 := (ix_map (f := iN) (ca_some (Nat.lt_trans (inner_lt (n := n) (Nat.succ_pos i)) (by omega : i + 1 < cells.length)))).2
    have q3 := inner_cell hn.1 (Nat.succ_pos i)
    simp only [Nat.succ_eq_add_one] at q2 q3
    refine ⟨_, rfl, rfl, ?_, ?_⟩
    · simp [bodyP, bodyI, startE, startI, sSeq, sRet, sAsg, sExp, sIfS, sNx, sV, sB, sC, PD.s2, toT, sTr, truth, bne_dec, sChain, sAnd, sOr, sNot, sIf, tAnd', tOr', tNot', sNil, sCons, sCall, allD, sN, allR, PD.res, sTup, sLst, sFr, gN, gT, gsNil, gsCons, sIsi, tyName, isSub, sOrE, sM1, sM1T, fAdd_int, fSub, fLe, fLt, fGt, fGe, eq_int, ne_int, cont?, setCont, List.replicate, fLen, sOwn, sApp, wipeE, q1, q2, q3]
      omega
    · simp [bodyP, bodyI, startE, startI, sSeq, sRet, sAsg, sExp, sIfS, sNx, sV, sB, sC, PD.s2, toT, sTr, truth, bne_dec, sChain, sAnd, sOr, sNot, sIf, tAnd', tOr', tNot', sNil, sCons, sCall, allD, sN, allR, PD.res, sTup, sLst, sFr, gN, gT, gsNil, gsCons, sIsi, tyName, isSub, sOrE, sM1, sM1T, fAdd_int, fSub, fLe, fLt, fGt, fGe, eq_int, ne_int, cont?, setCont, List.replicate, fLen, sOwn, sApp, wipeE]
  unfold p_hang_together g_hang_together
  have hmx : ((PD.maxN cells : Nat) : Int) + 1 = (m : Nat) := by rw [V.maxN]; omega
  have hcr : (((crs n cells).length : Nat) : Int) + 1 = (m : Nat) := by have := V.cr; omega
  simp [bodyP, bodyI, startE, startI, sSeq, sRet, sAsg, sExp, sIfS, sNx, sV, sB, sC, PD.s2, toT, sTr, truth, bne_dec, sChain, sAnd, sOr, sNot, sIf, tAnd', tOr', tNot', sNil, sCons, sCall, allD, sN, allR, PD.res, sTup, sLst, sFr, gN, gT, gsNil, gsCons, sIsi, tyName, isSub, sOrE, sM1, sM1T, fAdd_int, fSub, fLe, fLt, fGt, fGe, eq_int, ne_int, cont?, setCont, List.replicate, fLen, sOwn, sApp, fMax_tN ne, hmx, e0, e, hcr]
end
end S89
namespace S89
open PySem PD
section
variable {a n m : Nat} {cells : List Nat}
theorem are_integers_nat {xs : List Nat} {b : Nat} (h : ∀ v ∈ xs, v ≤ b) (hl : xs.length < 1000) : p_are_integers [tN xs, .int 0, iN b] = some (.bool true) := by
  have e : a1_are_integers [.dat (tN xs), .dat (.int 0), .dat (iN b), .un] = some (.d (.bool true), [.dat (tN xs), .dat (.int 0), .dat (iN b), .un]) := by
    have q : xs.all (fun _ => true) = true := by simp
    rw [← q]
    refine sAll_on xs iN _ (by simp [bodyP, bodyI, startE, startI, sSeq, sRet, sAsg, sExp, sIfS, sNx, sV, sB, sC, PD.s2, toT, sTr, truth, bne_dec, sChain, sAnd, sOr, sNot, sIf, tAnd', tOr', tNot', sNil, sCons, sCall, allD, sN, allR, PD.res, sTup, sLst, sFr, gN, gT, gsNil, gsCons, sIsi, tyName, isSub, sOrE, sM1, sM1T, fAdd_int, fSub, fLe, fLt, fGt, fGe, eq_int, ne_int, cont?, setCont, List.replicate, fLen, sOwn, sApp, sSq]) rfl rfl fun v hv => ⟨_, rfl, rfl, ?_⟩
    have := h v hv
    simp [bodyP, bodyI, startE, startI, sSeq, sRet, sAsg, sExp, sIfS, sNx, sV, sB, sC, PD.s2, toT, sTr, truth, bne_dec, sChain, sAnd, sOr, sNot, sIf, tAnd', tOr', tNot', sNil, sCons, sCall, allD, sN, allR, PD.res, sTup, sLst, sFr, gN, gT, gsNil, gsCons, sIsi, tyName, isSub, sOrE, sM1, sM1T, fAdd_int, fSub, fLe, fLt, fGt, fGe, eq_int, ne_int, cont?, setCont, List.replicate, fLen, sOwn, sApp, wipeE, integer_int]
    omega
  unfold p_are_integers g_are_integers
  simp [bodyP, bodyI, startE, startI, sSeq, sRet, sAsg, sExp, sIfS, sNx, sV, sB, sC, PD.s2, toT, sTr, truth, bne_dec, sChain, sAnd, sOr, sNot, sIf, tAnd', tOr', tNot', sNil, sCons, sCall, allD, sN, allR, PD.res, sTup, sLst, sFr, gN, gT, gsNil, gsCons, sIsi, tyName, isSub, sOrE, sM1, sM1T, fAdd_int, fSub, fLe, fLt, fGt, fGe, eq_int, ne_int, cont?, setCont, List.replicate, fLen, sOwn, sApp, e]
theorem Valid.chart (V : Valid a n m cells) : p_is_chart [ch a cells] = some (.bool true) := by
  have hl := V.len_lt
  have ha := V.ha
  have hn := V.hn
  have hm := V.hm
  have ne : cells ≠ [] := fun z => by rw [z] at hl; simp at hl
  have e1 : p_are_integers [tN cells, .int 0, iN n] = some (.bool true) := are_integers_nat (fun v hv => by have := V.lt v hv; omega) (by omega)
  have hd : fDivmod [.int ((cells.length : Int) - 1), iN a] = some (.tuple [iN n, .int 0]) := by
    have e2 : ((cells.length : Int) - 1) = ((a * n : Nat) : Int) := by rw [V.len]; omega
    rw [e2]
    show (if 0 < (a : Int) ∧ (a : Int).natAbs < 1073741824 then some (PyData.tuple [.int (((a * n : Nat) : Int) / (a : Int)), .int (((a * n : Nat) : Int) % (a : Int))]) else none) = _
    rw [if_pos (by omega), ← Int.natCast_ediv, ← Int.natCast_emod, Nat.mul_div_cancel_left _ (by omega), Nat.mul_mod_right]
    rfl
  have hz : ¬ ((PD.maxN cells : Nat) : Int) = 0 := by rw [V.maxN]; omega
  have hz' : ¬ PD.maxN cells = 0 := by rw [V.maxN]; omega
  have a1 : (3 : Int) ≤ (a : Nat) := by omega
  have a2 : ((a : Nat) : Int) ≤ 4 := by omega
  have n1 : (1 : Int) ≤ (n : Nat) := by omega
  have n2 : ((n : Nat) : Int) ≤ 4 := by omega
  unfold p_is_chart g_is_chart
  simp [bodyP, bodyI, startE, startI, sSeq, sRet, sAsg, sExp, sIfS, sNx, sV, sB, sC, PD.s2, toT, sTr, truth, bne_dec, sChain, sAnd, sOr, sNot, sIf, tAnd', tOr', tNot', sNil, sCons, sCall, allD, sN, allR, PD.res, sTup, sLst, sFr, gN, gT, gsNil, gsCons, sIsi, tyName, isSub, sOrE, sM1, sM1T, fAdd_int, fSub, fLe, fLt, fGt, fGe, eq_int, ne_int, cont?, setCont, List.replicate, fLen, sOwn, sApp, pair_tup, integer_int, a1, a2, n1, n2, hd, e1, fMax_tN ne, hz, hz', V.hang]
theorem Valid.check (V : Valid a n m cells) : p_check_chart [ch a cells] = some .none := by
  unfold p_check_chart g_check_chart
  simp [bodyP, bodyI, startE, startI, sSeq, sRet, sAsg, sExp, sIfS, sNx, sV, sB, sC, PD.s2, toT, sTr, truth, bne_dec, sChain, sAnd, sOr, sNot, sIf, tAnd', tOr', tNot', sNil, sCons, sCall, allD, sN, allR, PD.res, sTup, sLst, sFr, gN, gT, gsNil, gsCons, sIsi, tyName, isSub, sOrE, sM1, sM1T, fAdd_int, fSub, fLe, fLt, fGt, fGe, eq_int, ne_int, cont?, setCont, List.replicate, fLen, sOwn, sApp, V.chart]
/-- the table of touching places -/
def tabN (a n N : Nat) : List (List Nat) := (List.range N).map (nbr a n)
theorem Valid.table (V : Valid a n m cells) : p_touch_table [ch a cells] = some (.list ((tabN a n cells.length).map tN)) := by
  have hl := V.len_lt
  have ha := V.ha
  have hn := V.hn
  have e := touch_table (a := a) (cells := cells) (by omega) (by omega) (by omega) (by rw [V.div]; omega) (by omega)
  rw [e, V.div]
  unfold tabN
  rw [List.map_map]
  rfl
theorem nbr_lt {a n c : Nat} (ha : 1 ≤ a) (hn : 1 ≤ n) (hc : c < 1 + a * n) : ∀ p ∈ nbr a n c, p < 1 + a * n := by
  intro p hp
  unfold nbr at hp
  split at hp
  · obtain ⟨k, hk, rfl⟩ := List.mem_map.mp hp
    have hk := List.mem_range.mp hk
    have : (k + 1) * n ≤ a * n := Nat.mul_le_mul_right n hk
    rw [Nat.add_mul] at this
    omega
  · split at hp
    · have := inner_lt (n := n) (by omega : 0 < c)
      simp at hp
      omega
    · rename_i h0 h1
      have h2 := inner_lt (n := n) (by omega : 0 < c)
      have h3 : c ≠ a * n := fun z => h1 (by rw [z]; exact Nat.mul_mod_left _ _)
      simp at hp
      omega
theorem nbr_len {a n c : Nat} (ha : a < 900) : (nbr a n c).length < 1000 := by
  unfold nbr
  split
  · simp; omega
  · split <;> simp
end
end S89
namespace S89
open PySem PD
theorem cut_hi (xs : List PyData) (c : Nat) (h : c ≤ xs.length) : cutD xs none (some (c : Int)) = xs.take c := by
  unfold cutD
  rw [HT.sIx_none, HT.sIx_nat, Nat.min_eq_left h]
  simp
theorem cut_lo (xs : List PyData) (c : Nat) (h : c ≤ xs.length) : cutD xs (some (c : Int)) none = xs.drop c := by
  unfold cutD
  rw [HT.sIx_none, HT.sIx_nat]
  rw [Nat.min_eq_left h]
  apply List.take_of_length_le
  simp
theorem fAdd_tup {xs ys zs : List PyData} (h : xs.length + ys.length ≤ 1000000) (e : xs ++ ys = zs) : fAdd (.tuple xs) (.tuple ys) = some (.tuple zs) := by
  rw [← e]
  exact if_pos h
theorem made {cells : List Nat} {l c : Nat} (hc : c < cells.length) (hl : cells.length < 1000) : p_made [tN cells, tk l c] = some (tN (cells.set c l)) := by
  obtain ⟨T, hT⟩ : ∃ T, T = (cells.map iN).take c := ⟨_, rfl⟩
  obtain ⟨U, hU⟩ : ∃ U, U = (cells.map iN).drop (c + 1) := ⟨_, rfl⟩
  have e1 : cutD (cells.map iN) none (some (c : Int)) = T := by rw [hT]; exact cut_hi (cells.map iN) c (by simp; omega)
  have e2 : cutD (cells.map iN) (some ((c : Int) + 1)) none = U := by rw [hU]; exact cut_lo (cells.map iN) (c + 1) (by simp; omega)
  have e3 : (T ++ [iN l]) ++ U = (cells.set c l).map iN := by
    rw [hT, hU, List.map_set, List.set_eq_take_append_cons_drop, if_pos (by simp; omega), List.append_assoc]
    rfl
  have l1 : T.length < 1000 := by rw [hT]; simp; omega
  have l2 : U.length < 1000 := by rw [hU]; simp; omega
  have h1 : fAdd (.tuple T) (.tuple [iN l]) = some (.tuple (T ++ [iN l])) := fAdd_tup (by simp; omega) rfl
  have h2 : fAdd (.tuple (T ++ [iN l])) (.tuple U) = some (tN (cells.set c l)) := fAdd_tup (by simp; omega) e3
  unfold p_made g_made
  simp [bodyP, bodyI, startE, startI, sSeq, sRet, sAsg, sExp, sIfS, sNx, sV, sB, sC, PD.s2, toT, sTr, truth, bne_dec, sChain, sAnd, sOr, sNot, sIf, tAnd', tOr', tNot', sNil, sCons, sCall, allD, sN, allR, PD.res, sTup, sLst, sFr, gN, gT, gsNil, gsCons, sIsi, tyName, isSub, sOrE, sM1, sM1T, fAdd_int, fSub, fLe, fLt, fGt, fGe, eq_int, ne_int, cont?, setCont, List.replicate, fLen, sOwn, sApp, sSl, fSl, pNone, pSome, e1, e2, h1, h2]
end S89
namespace S89
open PySem PD
/-- the cells behind one taking -/
def step (cells : List Nat) (t : Nat × Nat) : List Nat := cells.set t.2 t.1
/-- the cells behind the first i takings of a row -/
def cur (cells : List Nat) (row : List (Nat × Nat)) (i : Nat) : List Nat := (row.take i).foldl step cells
theorem foldl_len (row : List (Nat × Nat)) : ∀ cells : List Nat, (row.foldl step cells).length = cells.length := by
  induction row with
  | nil => intro _; rfl
  | cons t r ih => intro cells; rw [List.foldl_cons, ih]; exact List.length_set
theorem cur_len (cells : List Nat) (row : List (Nat × Nat)) (i : Nat) : (cur cells row i).length = cells.length := foldl_len _ _
theorem cur_succ {cells : List Nat} {row : List (Nat × Nat)} {i : Nat} {t : Nat × Nat} (h : row[i]? = some t) : cur cells row (i + 1) = step (cur cells row i) t := by
  unfold cur
  rw [List.take_add_one, h, List.foldl_append]
  rfl
abbrev tkD (t : Nat × Nat) : PyData := tk t.1 t.2
/-- all takings of a row can be made one after another -/
def RowOk (a n m : Nat) (cells : List Nat) (row : List (Nat × Nat)) : Prop := ∀ (i : Nat) (t : Nat × Nat), row[i]? = some t → t.1 < m ∧ t.2 < cells.length ∧ canMk (nbr a n t.2) (cur cells row i) t.1 t.2 = true
theorem ix_end {xs : List PyData} {k : Nat} {v : PyData} (hl : xs.length = k + 1) (h : xs[k]? = some v) : fIx (.list xs) (.int (-1)) = some v ∧ fIx (.tuple xs) (.int (-1)) = some v := by
  have e : (if 0 ≤ (-1 : Int) + (xs.length : Int) then some ((-1 : Int) + (xs.length : Int)).toNat else none) = some k := by
    rw [hl, if_pos (by omega), show ((-1 : Int) + ((k + 1 : Nat) : Int)).toNat = k by omega]
  constructor
  · unfold fIx
    simp [L2.atI, L2.ixN, hl]
    rw [if_pos (by omega), show (-1 + ((k : Int) + 1)).toNat = k by omega]
    exact h
  · unfold fIx
    simp [L2.atI, L2.ixN, hl]
    rw [if_pos (by omega), show (-1 + ((k : Int) + 1)).toNat = k by omega]
    exact h
/-- the cells of the maps of a row -/
def stps (cells : List Nat) (row : List (Nat × Nat)) (k : Nat) : List PyData := (List.range k).map fun i => tN (cur cells row i)
theorem stps_len (cells : List Nat) (row : List (Nat × Nat)) (k : Nat) : (stps cells row k).length = k := by unfold stps; simp
theorem stps_succ (cells : List Nat) (row : List (Nat × Nat)) (k : Nat) : stps cells row (k + 1) = stps cells row k ++ [tN (cur cells row k)] := by
  unfold stps
  rw [List.range_succ]
  simp
end S89

namespace S89
open PySem PD
/-! ### an island as a tree -/
def isRoot (n : Nat) (cells : List Nat) (c : Nat) : Prop := c = 0 ∨ ca cells c ≠ ca cells (inner n c)
theorem root_of (n : Nat) (cells : List Nat) (c : Nat) : ∃ r, r ≤ c ∧ isRoot n cells r ∧ ca cells r = ca cells c := by
  induction c using Nat.strongRecOn with
  | ind c ih =>
    by_cases h : isRoot n cells c
    · exact ⟨c, Nat.le_refl _, h, rfl⟩
    · have h0 : c ≠ 0 := fun z => h (.inl z)
      have h1 : ca cells c = ca cells (inner n c) := Classical.byContradiction fun z => h (.inr z)
      have lt := inner_lt (n := n) (by omega : 0 < c)
      obtain ⟨r, k1, k2, k3⟩ := ih _ lt
      exact ⟨r, by omega, k2, by rw [k3, h1]⟩
theorem nodup_leN : ∀ {a b : List Nat}, a.Nodup → (∀ k ∈ a, k ∈ b) → a.length ≤ b.length
  | [], _, _, _ => Nat.zero_le _
  | x :: r, b, h1, h2 => by
    have hx : x ∈ b := h2 x (by simp)
    obtain ⟨n1, n2⟩ := List.nodup_cons.mp h1
    have := nodup_leN (b := b.erase x) n2 fun k hk => by
      have e : k ≠ x := fun z => n1 (by rw [← z]; exact hk)
      exact (List.mem_erase_of_ne e).mpr (h2 k (by simp [hk]))
    rw [List.length_erase_of_mem hx] at this
    have : 0 < b.length := List.length_pos_of_mem hx
    simp
    omega
theorem map_inj {f : Nat → Nat} : ∀ {l : List Nat} {x y : Nat}, (l.map f).Nodup → x ∈ l → y ∈ l → f x = f y → x = y
  | z :: r, x, y, h, hx, hy, e => by
    rw [List.map_cons, List.nodup_cons] at h
    rcases List.mem_cons.mp hx with h1 | h1
    · rcases List.mem_cons.mp hy with h2 | h2
      · rw [h1, h2]
      · exact (h.1 (List.mem_map.mpr ⟨y, h2, by rw [← e, h1]⟩)).elim
    · rcases List.mem_cons.mp hy with h2 | h2
      · exact (h.1 (List.mem_map.mpr ⟨x, h1, by rw [e, h2]⟩)).elim
      · exact map_inj h.2 h1 h2 e
/-- m names among m things: none twice -/
theorem nodup_of_cover {m : Nat} {L : List Nat} (hl : L.length = m) (h : ∀ v, v < m → v ∈ L) : L.Nodup := by
  have key : ∀ (k : Nat) (L : List Nat) (S : List Nat), L.length ≤ k → S.Nodup → (∀ v ∈ S, v ∈ L) → S.length = L.length → L.Nodup := by
    intro k
    induction k with
    | zero => intro L S h1 _ _ _; have : L = [] := List.length_eq_zero_iff.mp (by omega); rw [this]; exact List.nodup_nil
    | succ k ih =>
      intro L S h1 h2 h3 h4
      cases L with
      | nil => exact List.nodup_nil
      | cons x r =>
        have hx : x ∈ S := Classical.byContradiction fun z => by
          have : ∀ v ∈ S, v ∈ r := fun v hv => by
            rcases List.mem_cons.mp (h3 v hv) with rfl | q
            · exact absurd hv z
            · exact q
          have := nodup_leN h2 this
          simp at h4
          omega
        have e1 : (S.erase x).length = r.length := by rw [List.length_erase_of_mem hx]; simp at h4; omega
        have e2 : ∀ v ∈ S.erase x, v ∈ r := fun v hv => by
          have q := (List.Nodup.mem_erase_iff h2).mp hv
          rcases List.mem_cons.mp (h3 v q.2) with rfl | q2
          · exact absurd rfl q.1
          · exact q2
        have hr := ih r (S.erase x) (by simp at h1; omega) (h2.erase x) e2 e1
        refine List.nodup_cons.mpr ⟨fun hxr => ?_, hr⟩
        have q : ∀ v ∈ S, v ∈ r := fun v hv => by
          rcases List.mem_cons.mp (h3 v hv) with rfl | q
          · exact hxr
          · exact q
        have := nodup_leN h2 q
        simp at h4
        omega
  exact key L.length L (List.range m) (Nat.le_refl _) List.nodup_range (fun v hv => h v (List.mem_range.mp hv)) (by simp [hl])
section
variable {a n m : Nat} {cells : List Nat}
def rts (n : Nat) (cells : List Nat) : List Nat := 0 :: (crs n cells).map (· + 1)
theorem mem_rts {c : Nat} (hc : c < cells.length) : c ∈ rts n cells ↔ isRoot n cells c := by
  unfold rts crs isRoot
  simp only [List.mem_cons, List.mem_map, List.mem_filter, List.mem_range, decide_eq_true_eq]
  constructor
  · rintro (h | ⟨i, ⟨_, h⟩, rfl⟩)
    · exact .inl h
    · exact .inr h
  · rintro (h | h)
    · exact .inl h
    · by_cases h0 : c = 0
      · exact .inl h0
      · exact .inr ⟨c - 1, ⟨by omega, by rw [show c - 1 + 1 = c by omega]; exact h⟩, by omega⟩
theorem ca_mem {c : Nat} (hc : c < cells.length) : ca cells c ∈ cells := by
  have := ca_some hc
  exact List.mem_of_getElem? this
theorem Valid.unique (V : Valid a n m cells) {c d : Nat} (hc : c < cells.length) (hd : d < cells.length) (rc : isRoot n cells c) (rd : isRoot n cells d) (e : ca cells c = ca cells d) : c = d := by
  have L : ((rts n cells).map (ca cells)).Nodup := by
    refine nodup_of_cover (m := m) ?_ fun v hv => ?_
    · have := V.cr
      simp [rts]
      omega
    · obtain ⟨j, hj, e⟩ := List.getElem_of_mem (V.cov v hv)
      obtain ⟨r, k1, k2, k3⟩ := root_of n cells j
      refine List.mem_map.mpr ⟨r, (mem_rts (by omega)).mpr k2, ?_⟩
      rw [k3, ← e]
      have := ca_some hj
      rw [List.getElem?_eq_getElem hj] at this
      exact (Option.some.inj this).symm
  exact map_inj L ((mem_rts hc).mpr rc) ((mem_rts hd).mpr rd) e
end
end S89

namespace S89
open PySem PD
section
variable {a n m : Nat} {cells : List Nat}
/-! ### finite facts of the islands -/
def touch (n c i : Nat) : Bool := decide (i + 1 = c) || decide (inner n (i + 1) = c)
def other (n c i : Nat) : Nat := if i + 1 = c then inner n c else i + 1
theorem fin_nbr : ∀ a ∈ [3, 4], ∀ n ∈ [1, 2, 3, 4], ∀ c ∈ List.range (1 + a * n), ((List.range (a * n)).filter (touch n c)).map (other n c) = nbr a n c ∧ c ∉ nbr a n c ∧ (nbr a n c).Nodup := by decide +kernel
theorem fin_in : ∀ a ∈ [3, 4], ∀ n ∈ [1, 2, 3, 4], ∀ c ∈ List.range (1 + a * n), ∀ p ∈ nbr a n c, (inner n p = c ∧ p ≠ 0) ∨ (c ≠ 0 ∧ p = inner n c) := by decide +kernel
theorem Valid.a_mem (V : Valid a n m cells) : a ∈ [3, 4] := by have := V.ha; simp; omega
theorem Valid.n_mem (V : Valid a n m cells) : n ∈ [1, 2, 3, 4] := by have := V.hn; simp; omega
theorem Valid.c_mem (V : Valid a n m cells) {c : Nat} (hc : c < cells.length) : c ∈ List.range (1 + a * n) := by rw [List.mem_range, ← V.len]; exact hc
theorem Valid.nbr_eq (V : Valid a n m cells) {c : Nat} (hc : c < cells.length) : ((List.range (a * n)).filter (touch n c)).map (other n c) = nbr a n c ∧ c ∉ nbr a n c ∧ (nbr a n c).Nodup := fin_nbr a V.a_mem n V.n_mem c (V.c_mem hc)
theorem Valid.nbr_in (V : Valid a n m cells) {c p : Nat} (hc : c < cells.length) (hp : p ∈ nbr a n c) : (inner n p = c ∧ p ≠ 0) ∨ (c ≠ 0 ∧ p = inner n c) := fin_in a V.a_mem n V.n_mem c (V.c_mem hc) p hp
theorem Valid.nbr_lt (V : Valid a n m cells) {c : Nat} (hc : c < cells.length) : ∀ p ∈ nbr a n c, p < cells.length := by
  have ha := V.ha
  have hn := V.hn
  rw [V.len] at hc ⊢
  exact S89.nbr_lt (by omega) (by omega) hc
/-- of the places that a cell of another land touches, at most one is of the land L -/
theorem Valid.one (V : Valid a n m cells) {c L p q : Nat} (hc : c < cells.length) (hL : L ≠ ca cells c) (hp : p ∈ nbr a n c) (hq : q ∈ nbr a n c) (ep : ca cells p = L) (eq : ca cells q = L) : p = q := by
  have lp := V.nbr_lt hc p hp
  have lq := V.nbr_lt hc q hq
  have out : ∀ {x : Nat}, inner n x = c → ca cells x = L → isRoot n cells x := fun {x} h1 h2 => .inr (by rw [h1, h2]; exact hL)
  have mix : ∀ {x y : Nat}, x < cells.length → inner n x = c ∧ x ≠ 0 → ca cells x = L → c ≠ 0 ∧ y = inner n c → ca cells y = L → False := fun {x y} hx h1 h2 h3 h4 => by
    obtain ⟨r, k1, k2, k3⟩ := root_of n cells y
    have i1 := inner_lt (n := n) (by omega : 0 < c)
    have i2 := inner_lt (n := n) (by omega : 0 < x)
    have := V.unique hx (by omega : r < cells.length) (out h1.1 h2) k2 (by rw [k3, h2, h4])
    omega
  rcases V.nbr_in hc hp with h1 | h1
  · rcases V.nbr_in hc hq with h2 | h2
    · exact V.unique lp lq (out h1.1 ep) (out h2.1 eq) (by rw [ep, eq])
    · exact (mix lp h1 ep h2 eq).elim
  · rcases V.nbr_in hc hq with h2 | h2
    · exact (mix lq h2 eq h1 ep).elim
    · rw [h1.2, h2.2]
theorem count_one {f : Nat → Nat} {L : Nat} : ∀ {ps : List Nat}, ps.Nodup → (∀ p ∈ ps, ∀ q ∈ ps, f p = L → f q = L → p = q) → (ps.map f).count L ≤ 1
  | [], _, _ => by simp
  | x :: r, h, k => by
    obtain ⟨h1, h2⟩ := List.nodup_cons.mp h
    have ih := count_one h2 fun p hp q hq => k p (by simp [hp]) q (by simp [hq])
    rw [List.map_cons, List.count_cons]
    by_cases e : f x = L
    · have : (r.map f).count L = 0 := List.count_eq_zero.mpr fun z => by
        obtain ⟨y, hy, ey⟩ := List.mem_map.mp z
        have := k x (by simp) y (by simp [hy]) e ey
        rw [this] at h1
        exact h1 hy
      rw [this]
      split <;> omega
    · rw [if_neg (by simpa using e)]
      omega
theorem Valid.count_le (V : Valid a n m cells) {c L : Nat} (hc : c < cells.length) (hL : L ≠ ca cells c) : (near cells (nbr a n c)).count L ≤ 1 :=
  count_one (V.nbr_eq hc).2.2 fun p hp q hq => V.one hc hL hp hq
end
end S89
namespace S89
open PySem PD
section
variable {a n m : Nat} {cells : List Nat}
theorem ca_set {c l x : Nat} (hc : c < cells.length) : ca (cells.set c l) x = if x = c then l else ca cells x := by
  unfold ca
  rw [List.getD_eq_getElem?_getD, List.getD_eq_getElem?_getD]
  by_cases h : x = c
  · subst h
    rw [List.getElem?_set_self hc, if_pos rfl]
    rfl
  · rw [List.getElem?_set_ne (fun z => h z.symm), if_neg h]
theorem near_set {c l : Nat} {ps : List Nat} (hc : c < cells.length) (h : c ∉ ps) : near (cells.set c l) ps = near cells ps := by
  unfold near
  apply List.map_congr_left
  intro p hp
  rw [ca_set hc, if_neg (fun z => h (by rw [← z]; exact hp))]
theorem countP_ne (L : Nat) : ∀ xs : List Nat, xs.countP (fun x => decide (¬ x = L)) + xs.count L = xs.length
  | [] => rfl
  | x :: r => by
    have ih := countP_ne L r
    rw [List.countP_cons, List.count_cons, List.length_cons]
    by_cases h : x = L
    · simp [h] at ih ⊢; omega
    · simp [h] at ih ⊢; omega
theorem countP_split (p t : Nat → Bool) : ∀ xs : List Nat, xs.countP p = (xs.filter t).countP p + (xs.filter fun x => !t x).countP p
  | [] => rfl
  | x :: r => by
    have ih := countP_split p t r
    cases h : t x <;> simp [List.filter_cons, h, List.countP_cons, ih] <;> omega
theorem countP_congr_mem {p q : Nat → Bool} : ∀ {xs : List Nat}, (∀ x ∈ xs, p x = q x) → xs.countP p = xs.countP q
  | [], _ => rfl
  | x :: r, h => by
    rw [List.countP_cons, List.countP_cons, countP_congr_mem (fun y hy => h y (by simp [hy])), h x (by simp)]
/-- the edges of a map that part lands, those at c told apart -/
theorem Valid.edges (V : Valid a n m cells) {c : Nat} (hc : c < cells.length) (g : List Nat) (hg : g.length = cells.length) :
    (crs n g).length = (near g (nbr a n c)).countP (fun x => decide (¬ x = ca g c)) + ((List.range (a * n)).filter fun i => !touch n c i).countP (fun i => decide (¬ ca g (i + 1) = ca g (inner n (i + 1)))) := by
  unfold crs
  rw [hg, V.len, Nat.add_sub_cancel_left, ← List.countP_eq_length_filter, countP_split _ (touch n c)]
  congr 1
  rw [← (V.nbr_eq hc).1]
  unfold near
  rw [List.map_map, List.countP_map]
  apply countP_congr_mem
  intro i hi
  have ht := (List.mem_filter.mp hi).2
  have hi' := List.mem_range.mp (List.mem_filter.mp hi).1
  unfold touch at ht
  simp only [Bool.or_eq_true, decide_eq_true_eq] at ht
  refine decide_eq_decide.mpr ?_
  show ¬ ca g (i + 1) = ca g (inner n (i + 1)) ↔ ¬ ca g (other n c i) = ca g c
  unfold other
  by_cases h : i + 1 = c
  · rw [if_pos h, h]
    exact ⟨fun z w => z w.symm, fun z w => z w.symm⟩
  · rw [if_neg h]
    rcases ht with ht | ht
    · exact absurd ht h
    · rw [ht]
theorem ok_iff {ps : List Nat} {l c : Nat} (h : canMk ps cells l c = true) : l ≠ ca cells c ∧ l ∈ near cells ps ∧ (near cells ps).count (ca cells c) = 1 := by
  unfold canMk at h
  simp only [Bool.and_eq_true, decide_eq_true_eq] at h
  exact h
theorem Valid.step (V : Valid a n m cells) {l c : Nat} (hc : c < cells.length) (ok : canMk (nbr a n c) cells l c = true) : Valid a n m (cells.set c l) := by
  obtain ⟨h1, h2, h3⟩ := ok_iff ok
  obtain ⟨e1, e2, e3⟩ := V.nbr_eq hc
  have hl : l < m := by
    obtain ⟨p, hp, e⟩ := List.mem_map.mp h2
    rw [← e]
    exact V.lt _ (ca_mem (V.nbr_lt hc p hp))
  have one : (near cells (nbr a n c)).count l = 1 := Nat.le_antisymm (V.count_le hc h1) (List.count_pos_iff.mpr h2)
  refine ⟨V.ha, V.hn, V.hm, by rw [List.length_set]; exact V.len, fun v hv => ?_, fun v hv => ?_, ?_⟩
  · rcases List.mem_or_eq_of_mem_set hv with q | q
    · exact V.lt v q
    · rw [q]; exact hl
  · obtain ⟨j, hj, e⟩ := List.getElem_of_mem (V.cov v hv)
    have ej : ca cells j = v := by
      have := ca_some hj
      rw [List.getElem?_eq_getElem hj] at this
      rw [← e]
      exact (Option.some.inj this).symm
    have put : ∀ x, x < cells.length → x ≠ c → ca cells x = v → v ∈ cells.set c l := fun x hx hn hv => by
      have : ca (cells.set c l) x = v := by rw [ca_set hc, if_neg hn]; exact hv
      rw [← this]
      exact ca_mem (by rw [List.length_set]; exact hx)
    by_cases h : j = c
    · rw [h] at ej
      have : ca cells c ∈ near cells (nbr a n c) := List.count_pos_iff.mp (by omega)
      obtain ⟨p, hp, e⟩ := List.mem_map.mp this
      exact put p (V.nbr_lt hc p hp) (fun z => e2 (by rw [z] at hp; exact hp)) (by rw [e, ej])
    · exact put j hj h ej
  · have E1 := V.edges hc cells rfl
    have E2 := V.edges hc (cells.set c l) List.length_set
    rw [near_set hc e2, ca_set hc, if_pos rfl] at E2
    have c1 := countP_ne (ca cells c) (near cells (nbr a n c))
    have c2 := countP_ne l (near cells (nbr a n c))
    have same : ((List.range (a * n)).filter fun i => !touch n c i).countP (fun i => decide (¬ ca (cells.set c l) (i + 1) = ca (cells.set c l) (inner n (i + 1)))) = ((List.range (a * n)).filter fun i => !touch n c i).countP (fun i => decide (¬ ca cells (i + 1) = ca cells (inner n (i + 1)))) := by
      apply countP_congr_mem
      intro i hi
      have ht := (List.mem_filter.mp hi).2
      unfold touch at ht
      simp only [Bool.not_eq_true', Bool.or_eq_false_iff, decide_eq_false_iff_not] at ht
      rw [ca_set hc, ca_set hc, if_neg ht.1, if_neg ht.2]
    have := V.cr
    omega
/-- a taking can be taken back -/
theorem Valid.undo (V : Valid a n m cells) {l c : Nat} (hc : c < cells.length) (ok : canMk (nbr a n c) cells l c = true) : canMk (nbr a n c) (cells.set c l) (ca cells c) c = true ∧ (cells.set c l).set c (ca cells c) = cells := by
  obtain ⟨h1, h2, h3⟩ := ok_iff ok
  obtain ⟨e1, e2, e3⟩ := V.nbr_eq hc
  have one : (near cells (nbr a n c)).count l = 1 := Nat.le_antisymm (V.count_le hc h1) (List.count_pos_iff.mpr h2)
  constructor
  · unfold canMk
    rw [near_set hc e2, ca_set hc, if_pos rfl]
    simp only [Bool.and_eq_true, decide_eq_true_eq]
    exact ⟨fun z => h1 z.symm, List.count_pos_iff.mp (by omega), one⟩
  · rw [List.set_set]
    apply List.ext_getElem?
    intro i
    by_cases h : c = i
    · subst h
      rw [List.getElem?_set_self hc, ca_some hc]
    · rw [List.getElem?_set_ne h]
end
end S89

namespace S89
open PySem PD
/-- what the law's row holds -/
def RowI (ns : List Int) (r : List PyData) : Prop := ∃ p s q : Int, 0 ≤ p ∧ r = [.list (ns.map .int), .int p, .int s, .int q]
theorem emod_nat {x : Int} {many : Nat} (h : 0 < many) : ∃ v : Nat, x % (many : Int) = (v : Int) ∧ v < many := by
  have h1 := Int.emod_nonneg x (show (many : Int) ≠ 0 by omega)
  have h2 := Int.emod_lt_of_pos x (show 0 < (many : Int) by omega)
  exact ⟨(x % (many : Int)).toNat, by omega, by omega⟩
theorem fMul_r (i : Int) : fMul (.int i) (.int 48271) = some (.int (i * 48271)) := by
  unfold fMul
  exact if_pos (.inr (.inl (by decide)))
theorem fPow18 : fPow (.int 10) (.int 18) = some (.int 1000000000000000000) := by rfl
theorem taken {ns : List Int} {r : List PyData} {many : Nat} (h : RowI ns r) (h1 : 0 < many) (h2 : many < 1000) : ∃ v r', p__law_taken r [iN many] = some (iN v, r') ∧ v < many ∧ RowI ns r' := by
  obtain ⟨p, s, q, hp, rfl⟩ := h
  have d1 : ∀ x : Int, fDiv (.int x) (iN many) = some (.int (x / (many : Int))) := fun x => fDiv_small x _ (by omega)
  have d7 : ∀ x : Int, fDiv (.int x) (.int 7) = some (.int (x / 7)) := fun x => fDiv_small x 7 (by omega)
  have m1 : ∀ x : Int, fMod (.int x) (iN many) = some (.int (x % (many : Int))) := fun x => fMod_pos x _ (by omega)
  have m2 : ∀ x : Int, fMod (.int x) (.int 2147483647) = some (.int (x % 2147483647)) := fun x => fMod_pos x _ (by omega)
  have i0 : ∀ a b c d : PyData, fIx (.list [a, b, c, d]) (.int 0) = some a := fun _ _ _ _ => rfl
  have i1 : ∀ a b c d : PyData, fIx (.list [a, b, c, d]) (.int 1) = some b := fun _ _ _ _ => rfl
  have i2 : ∀ a b c d : PyData, fIx (.list [a, b, c, d]) (.int 2) = some c := fun _ _ _ _ => rfl
  have i3 : ∀ a b c d : PyData, fIx (.list [a, b, c, d]) (.int 3) = some d := fun _ _ _ _ => rfl
  have x1 : L2.ixN 4 1 = some 1 := rfl
  have x2 : L2.ixN 4 2 = some 2 := rfl
  have x3 : L2.ixN 4 3 = some 3 := rfl
  by_cases hq : 0 < q
  · obtain ⟨v, e, hv⟩ := emod_nat (x := q) h1
    refine ⟨v, [.list (ns.map .int), .int p, .int s, .int (q / (many : Int))], ?_, hv, p, s, _, hp, rfl⟩
    unfold p__law_taken g__law_taken
    simp [bodyP, bodyI, startE, startI, sSeq, sRet, sAsg, sExp, sIfS, sNx, sV, sB, sC, PD.s2, toT, sTr, truth, bne_dec, sChain, sAnd, sOr, sNot, sIf, tAnd', tOr', tNot', sNil, sCons, sCall, allD, sN, allR, PD.res, sTup, sLst, sFr, gN, gT, gsNil, gsCons, sIsi, tyName, isSub, sOrE, sM1, sM1T, fAdd_int, fSub, fLe, fLt, fGt, fGe, eq_int, ne_int, cont?, setCont, List.replicate, fLen, sOwn, sApp, hq, i0, i1, i2, i3, x1, x2, x3, fInt, m1, d1, e, sSetIx]
  · by_cases hl : (ns.length : Int) < p + 1
    · obtain ⟨v, e, hv⟩ := emod_nat (x := ((s * 48271 + 11) % 2147483647) / 7) h1
      refine ⟨v, [.list (ns.map .int), .int (p + 1), .int ((s * 48271 + 11) % 2147483647), .int q], ?_, hv, _, _, _, by omega, rfl⟩
      unfold p__law_taken g__law_taken
      simp [bodyP, bodyI, startE, startI, sSeq, sRet, sAsg, sExp, sIfS, sNx, sV, sB, sC, PD.s2, toT, sTr, truth, bne_dec, sChain, sAnd, sOr, sNot, sIf, tAnd', tOr', tNot', sNil, sCons, sCall, allD, sN, allR, PD.res, sTup, sLst, sFr, gN, gT, gsNil, gsCons, sIsi, tyName, isSub, sOrE, sM1, sM1T, fAdd_int, fSub, fLe, fLt, fGt, fGe, eq_int, ne_int, cont?, setCont, List.replicate, fLen, sOwn, sApp, hq, hl, i0, i1, i2, i3, x1, x2, x3, fInt, m1, m2, d1, d7, fMul_r, e, sSetIx]
    · obtain ⟨k, hk⟩ : ∃ k : Nat, p = (k : Int) := ⟨p.toNat, by omega⟩
      have hk2 : k < ns.length := by omega
      obtain ⟨z, hz⟩ : ∃ z, ns[k]? = some z := ⟨_, List.getElem?_eq_getElem hk2⟩
      have ez := (ix_map (f := PyData.int) hz).1
      obtain ⟨v, e, hv⟩ := emod_nat (x := z) h1
      subst hk
      by_cases h18 : (1000000000000000000 : Int) ≤ z
      · refine ⟨v, [.list (ns.map .int), .int ((k : Int) + 1), .int ((s * 48271 + z + 11) % 2147483647), .int (z / (many : Int))], ?_, hv, _, _, _, by omega, rfl⟩
        unfold p__law_taken g__law_taken
        simp [bodyP, bodyI, startE, startI, sSeq, sRet, sAsg, sExp, sIfS, sNx, sV, sB, sC, PD.s2, toT, sTr, truth, bne_dec, sChain, sAnd, sOr, sNot, sIf, tAnd', tOr', tNot', sNil, sCons, sCall, allD, sN, allR, PD.res, sTup, sLst, sFr, gN, gT, gsNil, gsCons, sIsi, tyName, isSub, sOrE, sM1, sM1T, fAdd_int, fSub, fLe, fLt, fGt, fGe, eq_int, ne_int, cont?, setCont, List.replicate, fLen, sOwn, sApp, hq, hl, i0, i1, i2, i3, x1, x2, x3, fInt, m1, m2, d1, d7, fMul_r, e, sSetIx, ez, fPow18, h18]
      · refine ⟨v, [.list (ns.map .int), .int ((k : Int) + 1), .int ((s * 48271 + z + 11) % 2147483647), .int q], ?_, hv, _, _, _, by omega, rfl⟩
        unfold p__law_taken g__law_taken
        simp [bodyP, bodyI, startE, startI, sSeq, sRet, sAsg, sExp, sIfS, sNx, sV, sB, sC, PD.s2, toT, sTr, truth, bne_dec, sChain, sAnd, sOr, sNot, sIf, tAnd', tOr', tNot', sNil, sCons, sCall, allD, sN, allR, PD.res, sTup, sLst, sFr, gN, gT, gsNil, gsCons, sIsi, tyName, isSub, sOrE, sM1, sM1T, fAdd_int, fSub, fLe, fLt, fGt, fGe, eq_int, ne_int, cont?, setCont, List.replicate, fLen, sOwn, sApp, hq, hl, i0, i1, i2, i3, x1, x2, x3, fInt, m1, m2, d1, d7, fMul_r, e, sSetIx, ez, fPow18, h18]
end S89
namespace S89
open PySem PD
theorem pick {α : Type} {ns : List Int} {r : List PyData} {xs : List α} {f : α → PyData} (h : RowI ns r) (h1 : 0 < xs.length) (h2 : xs.length < 1000) : ∃ x r', p__law_pick r [.list (xs.map f)] = some (f x, r') ∧ x ∈ xs ∧ RowI ns r' := by
  obtain ⟨v, r', e, hv, hr⟩ := taken h h1 h2
  obtain ⟨x, hx⟩ : ∃ x, xs[v]? = some x := ⟨_, List.getElem?_eq_getElem hv⟩
  refine ⟨x, r', ?_, List.mem_of_getElem? hx, hr⟩
  have q := (ix_map (f := f) hx).1
  obtain ⟨L, hL⟩ : ∃ L, L = xs.map f := ⟨_, rfl⟩
  have hl : L.length = xs.length := by rw [hL, List.length_map]
  rw [← hL] at q ⊢
  unfold p__law_pick g__law_pick
  simp [bodyP, bodyI, startE, startI, sSeq, sRet, sAsg, sExp, sIfS, sNx, sV, sB, sC, PD.s2, toT, sTr, truth, bne_dec, sChain, sAnd, sOr, sNot, sIf, tAnd', tOr', tNot', sNil, sCons, sCall, allD, sN, allR, PD.res, sTup, sLst, sFr, gN, gT, gsNil, gsCons, sIsi, tyName, isSub, sOrE, sM1, sM1T, fAdd_int, fSub, fLe, fLt, fGt, fGe, eq_int, ne_int, cont?, setCont, List.replicate, fLen, sOwn, sApp, sCallI, hl, e, q]
end S89

namespace S89
open PySem PD
abbrev pD (p : Nat × Nat) : PyData := .tuple [iN p.1, iN p.2]
def En (r : List PyData) (a n m : Nat) (s4 s5 s6 s7 s8 s9 s10 s11 s12 s13 s14 : Sl) : Ev := [.io r, .dat (iN a), .dat (iN n), .dat (iN m), s4, s5, s6, s7, s8, s9, s10, s11, s12, s13, s14, .un, .un]
def prs (a n : Nat) : List (Nat × Nat) := (List.range a).flatMap fun i => (List.range n).map fun j => (i, j)
theorem fAdd_list {xs ys zs : List PyData} (h : xs.length + ys.length ≤ 1000000) (e : xs ++ ys = zs) : fAdd (.list xs) (.list ys) = some (.list zs) := by
  rw [← e]
  exact if_pos h
theorem prs_succ (i n : Nat) : prs (i + 1) n = prs i n ++ (List.range n).map fun j => (i, j) := by
  unfold prs
  rw [List.range_succ, List.flatMap_append]
  simp
theorem prs_len (i n : Nat) : (prs i n).length = i * n := by
  induction i with
  | zero => simp [prs]
  | succ i ih => rw [prs_succ, List.length_append, ih]; simp [Nat.add_mul]
end S89
namespace S89
open PySem PD
/-- i things chosen one after another, and what is left -/
structure Cut {α : Type} [DecidableEq α] (P : List α) (i : Nat) (cs left : List α) : Prop where
  nd : cs.Nodup
  len : cs.length = i
  sub : ∀ p ∈ cs, p ∈ P
  ndl : left.Nodup
  lenl : left.length + i = P.length
  subl : ∀ p ∈ left, p ∈ P ∧ p ∉ cs
theorem Cut.zero {α : Type} [DecidableEq α] {P : List α} (h : P.Nodup) : Cut P 0 [] P := ⟨List.nodup_nil, rfl, fun _ h => (by cases h), h, rfl, fun p hp => ⟨hp, by simp⟩⟩
theorem Cut.next {α : Type} [DecidableEq α] {P : List α} {i : Nat} {cs left : List α} {x : α} (C : Cut P i cs left) (hx : x ∈ left) : Cut P (i + 1) (cs ++ [x]) (left.filter fun y => !decide (y = x)) := by
  have e : left.filter (fun y => !decide (y = x)) = left.erase x := by
    rw [C.ndl.erase_eq_filter]
    apply List.filter_congr
    intro y _
    by_cases h : y = x <;> simp [h]
  rw [e]
  have hl := List.length_erase_of_mem hx
  have hp : 0 < left.length := List.length_pos_of_mem hx
  refine ⟨?_, by simp [C.len], fun p hp => ?_, C.ndl.erase x, ?_, fun p hp => ?_⟩
  · rw [List.nodup_append]
    refine ⟨C.nd, by simp, fun a ha b hb => ?_⟩
    simp at hb
    rw [hb]
    exact fun z => (C.subl x hx).2 (by rw [← z]; exact ha)
  · rcases List.mem_append.mp hp with q | q
    · exact C.sub p q
    · simp at q
      rw [q]
      exact (C.subl x hx).1
  · have := C.lenl
    omega
  · have q := (List.Nodup.mem_erase_iff C.ndl).mp hp
    refine ⟨(C.subl p q.2).1, fun z => ?_⟩
    rcases List.mem_append.mp z with w | w
    · exact (C.subl p q.2).2 w
    · simp at w
      exact q.1 w
theorem prs_nodup (a n : Nat) : (prs a n).Nodup := by
  induction a with
  | zero => simp [prs]
  | succ i ih =>
    rw [prs_succ, List.nodup_append]
    refine ⟨ih, ?_, fun x hx y hy => ?_⟩
    · exact List.Pairwise.map _ (fun x y h z => h (by cases z; rfl)) (List.nodup_range (n := n))
    · unfold prs at hx
      obtain ⟨i', hi', hx⟩ := List.mem_flatMap.mp hx
      obtain ⟨j', _, rfl⟩ := List.mem_map.mp hx
      obtain ⟨j, _, rfl⟩ := List.mem_map.mp hy
      intro z
      cases z
      exact absurd (List.mem_range.mp hi') (by omega)
theorem ne_pD (p q : Nat × Nat) : fNe (pD p) (pD q) = some (.bool (!decide (p = q))) := ne_toD (α := Nat × Nat) p q
theorem sRg1_int {f : SA} {ρ ρ1 : Ev} {n : Nat} {z : Int} (e : f ρ = some ([.d (.int z)], ρ1)) (hz : z = (n : Int)) (h : n < 1000000) : sRg1 f ρ = some ((List.range n).map iN, ρ1) := sRg1_small (by rw [e, hz]) h
end S89
namespace S89
open PySem PD
end S89

namespace S89
open PySem PD
theorem nodup_leG {α : Type} [DecidableEq α] : ∀ {a b : List α}, a.Nodup → (∀ k ∈ a, k ∈ b) → a.length ≤ b.length
  | [], _, _, _ => Nat.zero_le _
  | x :: r, b, h1, h2 => by
    have hx : x ∈ b := h2 x (by simp)
    obtain ⟨n1, n2⟩ := List.nodup_cons.mp h1
    have := nodup_leG (b := b.erase x) n2 fun k hk => by
      have e : k ≠ x := fun z => n1 (by rw [← z]; exact hk)
      exact (List.mem_erase_of_ne e).mpr (h2 k (by simp [hk]))
    rw [List.length_erase_of_mem hx] at this
    have : 0 < b.length := List.length_pos_of_mem hx
    simp
    omega
def cutB (cs : List (Nat × Nat)) (n t : Nat) : Bool := decide ((t / n, t % n) ∈ cs)
theorem cut_count {a n k : Nat} {cs left : List (Nat × Nat)} (hn : 0 < n) (C : Cut (prs a n) k cs left) : ((List.range (a * n)).filter (cutB cs n)).length = k := by
  rw [← C.len]
  have inj : ((((List.range (a * n)).filter (cutB cs n)).map fun t => (t / n, t % n))).Nodup := by
    refine List.Pairwise.map _ (fun x y h z => h ?_) (List.Pairwise.filter _ List.nodup_range)
    have h1 := congrArg Prod.fst z
    have h2 := congrArg Prod.snd z
    simp only at h1 h2
    rw [← Nat.div_add_mod x n, ← Nat.div_add_mod y n, h1, h2]
  apply Nat.le_antisymm
  · have := nodup_leG inj (b := cs) fun p hp => by
      obtain ⟨t, ht, rfl⟩ := List.mem_map.mp hp
      exact of_decide_eq_true (List.mem_filter.mp ht).2
    simpa using this
  · have := nodup_leG C.nd (b := ((List.range (a * n)).filter (cutB cs n)).map fun t => (t / n, t % n)) fun p hp => by
      have q := C.sub p hp
      unfold prs at q
      obtain ⟨i, hi, q⟩ := List.mem_flatMap.mp q
      obtain ⟨j, hj, rfl⟩ := List.mem_map.mp q
      have hi := List.mem_range.mp hi
      have hj := List.mem_range.mp hj
      have e1 : (i * n + j) / n = i := by rw [Nat.mul_comm, Nat.mul_add_div hn, Nat.div_eq_of_lt hj, Nat.add_zero]
      have e2 : (i * n + j) % n = j := by rw [Nat.mul_comm, Nat.mul_add_mod, Nat.mod_eq_of_lt hj]
      refine List.mem_map.mpr ⟨i * n + j, List.mem_filter.mpr ⟨List.mem_range.mpr ?_, ?_⟩, by rw [e1, e2]⟩
      · have : (i + 1) * n ≤ a * n := Nat.mul_le_mul_right n hi
        rw [Nat.add_mul] at this
        omega
      · unfold cutB
        rw [e1, e2]
        exact decide_eq_true hp
    simpa using this
theorem cut_mono {n t u : Nat} {cs : List (Nat × Nat)} (h : t ≤ u) : ((List.range t).filter (cutB cs n)).length ≤ ((List.range u).filter (cutB cs n)).length :=
  (List.Sublist.filter _ (List.range_sublist.mpr h)).length_le
theorem ca_app {cells : List Nat} {v x : Nat} : ca (cells ++ [v]) x = if x < cells.length then ca cells x else if x = cells.length then v else 0 := by
  unfold ca
  rw [List.getD_eq_getElem?_getD, List.getD_eq_getElem?_getD]
  by_cases h : x < cells.length
  · rw [if_pos h, List.getElem?_append_left h]
  · rw [if_neg h, List.getElem?_append_right (by omega)]
    by_cases h2 : x = cells.length
    · simp [h2]
    · rw [if_neg h2, List.getElem?_eq_none (by simp; omega)]
      rfl
/-- a map half made: t places of its arms done -/
structure Bld (n : Nat) (ord : List Nat) (cs : List (Nat × Nat)) (t : Nat) (cells : List Nat) (used : Nat) : Prop where
  len : cells.length = t + 1
  us : used = 1 + ((List.range t).filter (cutB cs n)).length
  zero : ca cells 0 = ca ord 0
  old : ∀ x, x ≤ t → ∃ j, j < used ∧ ca cells x = ca ord j
  all : ∀ j, j < used → ∃ x, x ≤ t ∧ ca cells x = ca ord j
  cr : ∀ s, s < t → (cutB cs n s = true ↔ ¬ ca cells (s + 1) = ca cells (inner n (s + 1)))
theorem Bld.start (n : Nat) (ord : List Nat) (cs : List (Nat × Nat)) : Bld n ord cs 0 [ca ord 0] 1 :=
  ⟨rfl, rfl, rfl, fun x hx => ⟨0, by omega, by rw [show x = 0 by omega]; rfl⟩, fun j hj => ⟨0, by omega, by rw [show j = 0 by omega]; rfl⟩, fun s hs => by omega⟩
theorem filter_succ (p : Nat → Bool) (t : Nat) : ((List.range (t + 1)).filter p).length = ((List.range t).filter p).length + if p t then 1 else 0 := by
  rw [List.range_succ, List.filter_append, List.length_append]
  cases h : p t <;> simp [h]
theorem Bld.next {n t used : Nat} {ord cells : List Nat} {cs : List (Nat × Nat)} (B : Bld n ord cs t cells used) (nd : ord.Nodup) (v used' : Nat)
    (h : if cutB cs n t = true then used < ord.length ∧ v = ca ord used ∧ used' = used + 1 else v = ca cells (inner n (t + 1)) ∧ used' = used) : Bld n ord cs (t + 1) (cells ++ [v]) used' := by
  have it : inner n (t + 1) < t + 1 := inner_lt (Nat.succ_pos t)
  have old : ∀ x, x ≤ t → ca (cells ++ [v]) x = ca cells x := fun x hx => by rw [ca_app, if_pos (by rw [B.len]; omega)]
  have new : ca (cells ++ [v]) (t + 1) = v := by rw [ca_app, if_neg (by rw [B.len]; omega), if_pos B.len.symm]
  have dist : ∀ j k, j < ord.length → k < ord.length → ca ord j = ca ord k → j = k := fun j k hj hk e => by
    have e1 := ca_some hj
    have e2 := ca_some hk
    rw [e] at e1
    exact (List.getElem?_inj hj nd).mp (e1.trans e2.symm)
  by_cases hc : cutB cs n t = true
  · rw [if_pos hc] at h
    obtain ⟨hu, hv, hu'⟩ := h
    subst hv hu'
    refine ⟨by simp [B.len], by rw [filter_succ, if_pos hc, B.us]; omega, by rw [old 0 (by omega)]; exact B.zero, fun x hx => ?_, fun j hj => ?_, fun s hs => ?_⟩
    · by_cases hx' : x ≤ t
      · obtain ⟨j, h1, h2⟩ := B.old x hx'
        exact ⟨j, by omega, by rw [old x hx', h2]⟩
      · exact ⟨used, by omega, by rw [show x = t + 1 by omega, new]⟩
    · by_cases hj' : j < used
      · obtain ⟨x, h1, h2⟩ := B.all j hj'
        exact ⟨x, by omega, by rw [old x h1, h2]⟩
      · exact ⟨t + 1, by omega, by rw [new, show j = used by omega]⟩
    · by_cases hs' : s < t
      · rw [old (s + 1) (by omega), old (inner n (s + 1)) (by have := inner_lt (n := n) (Nat.succ_pos s); simp at this; omega)]
        exact B.cr s hs'
      · have e : s = t := by omega
        subst e
        rw [new, old _ (by omega)]
        refine ⟨fun _ z => ?_, fun _ => hc⟩
        obtain ⟨j, h1, h2⟩ := B.old (inner n (s + 1)) (by omega)
        rw [h2] at z
        have := dist used j hu (by omega) z
        omega
  · rw [if_neg hc] at h
    obtain ⟨hv, hu'⟩ := h
    subst hu'
    refine ⟨by simp [B.len], by rw [filter_succ, if_neg hc, B.us]; omega, by rw [old 0 (by omega)]; exact B.zero, fun x hx => ?_, fun j hj => ?_, fun s hs => ?_⟩
    · by_cases hx' : x ≤ t
      · obtain ⟨j, h1, h2⟩ := B.old x hx'
        exact ⟨j, h1, by rw [old x hx', h2]⟩
      · obtain ⟨j, h1, h2⟩ := B.old (inner n (t + 1)) (by omega)
        exact ⟨j, h1, by rw [show x = t + 1 by omega, new, hv, h2]⟩
    · obtain ⟨x, h1, h2⟩ := B.all j hj
      exact ⟨x, by omega, by rw [old x h1, h2]⟩
    · by_cases hs' : s < t
      · rw [old (s + 1) (by omega), old (inner n (s + 1)) (by have := inner_lt (n := n) (Nat.succ_pos s); simp at this; omega)]
        exact B.cr s hs'
      · have e : s = t := by omega
        subst e
        rw [new, old _ (by omega)]
        exact ⟨fun z => absurd z hc, fun z => absurd hv z⟩
theorem Bld.valid {a n m used : Nat} {ord cells left : List Nat} {cs cl : List (Nat × Nat)} (ha : 3 ≤ a ∧ a ≤ 4) (hn : 1 ≤ n ∧ n ≤ 4) (hm : 2 ≤ m ∧ m ≤ n + 1) (C : Cut (prs a n) (m - 1) cs cl) (O : Cut (List.range m) m ord left) (B : Bld n ord cs (a * n) cells used) : Valid a n m cells := by
  have cc := cut_count (by omega) C
  have hu : used = m := by rw [B.us, cc]; omega
  have ol : ∀ j, j < m → ca ord j < m := fun j hj => by
    have := O.sub _ (ca_mem (by rw [O.len]; exact hj))
    exact List.mem_range.mp this
  have at_ : ∀ v ∈ cells, ∃ x, x ≤ a * n ∧ ca cells x = v := fun v hv => by
    obtain ⟨j, hj, e⟩ := List.getElem_of_mem hv
    have := ca_some hj
    rw [List.getElem?_eq_getElem hj] at this
    exact ⟨j, by have := B.len; omega, by rw [← e]; exact (Option.some.inj this).symm⟩
  refine ⟨ha, hn, hm, by rw [B.len]; omega, fun v hv => ?_, fun v hv => ?_, ?_⟩
  · obtain ⟨x, hx, e⟩ := at_ v hv
    obtain ⟨j, h1, h2⟩ := B.old x hx
    rw [← e, h2]
    exact ol j (by omega)
  · have : v ∈ ord := by
      refine Classical.byContradiction fun z => ?_
      have q := nodup_leN (a := v :: ord) (b := List.range m) (List.nodup_cons.mpr ⟨z, O.nd⟩) fun k hk => by
        rcases List.mem_cons.mp hk with rfl | hk
        · exact List.mem_range.mpr hv
        · exact O.sub k hk
      simp [O.len] at q
      omega
    obtain ⟨j, hj, e⟩ := List.getElem_of_mem this
    have ej := ca_some hj
    rw [List.getElem?_eq_getElem hj] at ej
    obtain ⟨x, h1, h2⟩ := B.all j (by rw [O.len] at hj; omega)
    rw [← e, Option.some.inj ej, ← h2]
    exact ca_mem (by rw [B.len]; omega)
  · have : crs n cells = (List.range (a * n)).filter (cutB cs n) := by
      unfold crs
      rw [B.len, Nat.add_sub_cancel]
      apply List.filter_congr
      intro s hs
      have := B.cr s (List.mem_range.mp hs)
      by_cases h : cutB cs n s = true
      · rw [h]
        exact decide_eq_true (this.mp h)
      · rw [Bool.not_eq_true] at h
        rw [h]
        exact decide_eq_false fun z => by rw [this.mpr z] at h; cases h
    rw [this, cc]
    omega
end S89
namespace S89
open PySem PD
def Em (r : List PyData) (a n m : Nat) (x4 : Sl) (cs : List (Nat × Nat)) (x6 x7 x8 x9 : Sl) (ord cells : List Nat) (used : Nat) (x13 x14 : Sl) : Ev :=
  [.io r, .dat (iN a), .dat (iN n), .dat (iN m), x4, .dat (.list (cs.map pD)), x6, x7, x8, x9, .dat (lN ord), .own (cells.map iN), .dat (iN used), x13, x14, .un, .un]
theorem cutB_at {cs : List (Nat × Nat)} {n i j : Nat} (hj : j < n) : cutB cs n (i * n + j) = decide ((i, j) ∈ cs) := by
  unfold cutB
  rw [show (i * n + j) / n = i by rw [Nat.mul_comm, Nat.mul_add_div (by omega), Nat.div_eq_of_lt hj, Nat.add_zero], show (i * n + j) % n = j by rw [Nat.mul_comm, Nat.mul_add_mod, Nat.mod_eq_of_lt hj]]
theorem inner_at {n i j : Nat} (hj : j < n) : inner n (i * n + j + 1) = if j = 0 then 0 else i * n + j := by
  unfold inner
  rw [Nat.add_sub_cancel, show (i * n + j) % n = j by rw [Nat.mul_comm, Nat.mul_add_mod, Nat.mod_eq_of_lt hj]]
end S89

namespace S89
open PySem PD
end S89

namespace S89
open PySem PD
theorem nats_of : ∀ {xs : List PyData}, (∀ d ∈ xs, ∃ p : Nat, d = iN p) → ∃ L : List Nat, xs = L.map iN
  | [], _ => ⟨[], rfl⟩
  | x :: r, h => by
    obtain ⟨p, rfl⟩ := h x (by simp)
    obtain ⟨L, hL⟩ := nats_of (xs := r) fun d hd => h d (by simp [hd])
    exact ⟨p :: L, by rw [hL]; rfl⟩
theorem iN_inj {p q : Nat} (h : iN p = iN q) : p = q := by
  have := PyData.int.inj h
  omega
theorem sortD_pw (ds : List PyData) : (sortD ds).Pairwise fun a b => W.dataLe (β := PyData) false id a b = true :=
  List.pairwise_mergeSort (fun a b c h1 h2 => (W.sortLe_total (PyProof.Rows.listOrd PyProof.Rows.itemOrd) false fun b : PyData => W.keyToks (id b)).trans a b c h1 h2) (fun a b => by
    rw [Bool.or_eq_true]
    exact (W.sortLe_total (PyProof.Rows.listOrd PyProof.Rows.itemOrd) false fun b : PyData => W.keyToks (id b)).total a b) ds
theorem le_nat {x y : Nat} (h : W.dataLe (β := PyData) false id (iN x) (iN y) = true) : x ≤ y := by
  have h2 : (!PyProof.Rows.lexLt PyProof.Rows.itemOrd [Sum.inl (y : Int)] [Sum.inl (x : Int)]) = true := h
  have e : PyProof.Rows.lexLt PyProof.Rows.itemOrd [Sum.inl (y : Int)] [Sum.inl (x : Int)] = decide ((y : Int) < (x : Int)) := by
    by_cases h : (y : Int) < (x : Int)
    · simp [PyProof.Rows.lexLt, PyProof.Rows.itemLt, h]
    · by_cases h3 : (x : Int) < (y : Int)
      · simp [PyProof.Rows.lexLt, PyProof.Rows.itemLt, h, h3]
      · have : (x : Int) = y := by omega
        simp [PyProof.Rows.lexLt, PyProof.Rows.itemLt, this]
  rw [e] at h2
  simp at h2
  omega
end S89

namespace S89
open PySem PD
/-- what the search for hanging cells has found -/
structure Seen (a n : Nat) (S found : List Nat) : Prop where
  nd : found.Nodup
  sub : ∀ x ∈ found, x ∈ S
  reach : ∀ side : Nat → Bool, (∀ x ∈ S, ∀ y ∈ S, y ∈ nbr a n x → side x = side y) → ∀ x ∈ found, side x = side (S.headD 0)
def Eh (a n : Nat) (S seen walk : List Nat) (x5 x6 : Sl) : Ev := [.dat (iN a), .dat (iN n), .dat (lN S), .dat (lN seen), .dat (lN walk), x5, x6, .un]
end S89

namespace S89
open PySem PD
theorem ne_nil (L : List Nat) : fNe (lN L) (.list []) = some (.bool (!decide (L = []))) := ne_toD (α := List Nat) L []
/-- all that touches what is found is found, but for what is still to be walked -/
def Clo (a n : Nat) (S seen walk : List Nat) : Prop := ∀ x ∈ seen, x ∉ walk → ∀ y ∈ S, y ∈ nbr a n x → y ∈ seen
end S89

namespace S89
open PySem PD
/-! ### lands that hang together, and their roots -/
theorem inner_lt' {n c : Nat} (h : c ≠ 0) : inner n c < c := inner_lt (by omega)
/-- the root of a cell -/
def rootF (n : Nat) (cells : List Nat) (c : Nat) : Nat := if h : c = 0 then 0 else if ca cells c ≠ ca cells (inner n c) then c else rootF n cells (inner n c)
termination_by c
decreasing_by exact inner_lt' h
theorem rootF_root {n : Nat} {cells : List Nat} {c : Nat} (h : isRoot n cells c) : rootF n cells c = c := by
  rw [rootF]
  rcases h with h | h
  · rw [dif_pos h, h]
  · split
    · rename_i z
      rw [z]
    · simp [h]
theorem rootF_in {n : Nat} {cells : List Nat} {c : Nat} (h0 : c ≠ 0) (h : ca cells c = ca cells (inner n c)) : rootF n cells c = rootF n cells (inner n c) := by
  rw [rootF, dif_neg h0, if_neg (by simpa using h)]
theorem rootF_spec (n : Nat) (cells : List Nat) (c : Nat) : rootF n cells c ≤ c ∧ isRoot n cells (rootF n cells c) ∧ ca cells (rootF n cells c) = ca cells c := by
  induction c using Nat.strongRecOn with
  | ind c ih =>
    by_cases h : isRoot n cells c
    · rw [rootF_root h]
      exact ⟨Nat.le_refl _, h, rfl⟩
    · have h0 : c ≠ 0 := fun z => h (.inl z)
      have h1 : ca cells c = ca cells (inner n c) := Classical.byContradiction fun z => h (.inr z)
      have lt := inner_lt' (n := n) h0
      obtain ⟨k1, k2, k3⟩ := ih _ lt
      rw [rootF_in h0 h1]
      exact ⟨by omega, k2, by rw [k3, h1]⟩
/-- the cells of a land -/
def landC (cells : List Nat) (v : Nat) : List Nat := (List.range cells.length).filter fun x => decide (ca cells x = v)
theorem mem_landC {cells : List Nat} {v x : Nat} : x ∈ landC cells v ↔ x < cells.length ∧ ca cells x = v := by
  unfold landC
  rw [List.mem_filter, List.mem_range]
  simp
theorem fin_touch : ∀ a ∈ [3, 4], ∀ n ∈ [1, 2, 3, 4], ∀ c ∈ List.range (1 + a * n), c ≠ 0 → inner n c ∈ nbr a n c ∧ c ∈ nbr a n (inner n c) := by decide +kernel
theorem nodup_map {f : Nat → Nat} : ∀ {l : List Nat}, l.Nodup → (∀ x ∈ l, ∀ y ∈ l, f x = f y → x = y) → (l.map f).Nodup
  | [], _, _ => List.nodup_nil
  | x :: r, h, inj => by
    obtain ⟨h1, h2⟩ := List.nodup_cons.mp h
    rw [List.map_cons]
    refine List.nodup_cons.mpr ⟨fun z => ?_, nodup_map h2 fun x hx y hy => inj x (by simp [hx]) y (by simp [hy])⟩
    obtain ⟨y, hy, e⟩ := List.mem_map.mp z
    have := inj y (by simp [hy]) x (by simp) e
    rw [this] at hy
    exact h1 hy
section
variable {a n : Nat} {cells : List Nat}
structure Shp (a n : Nat) (cells : List Nat) : Prop where
  ha : a ∈ [3, 4]
  hn : n ∈ [1, 2, 3, 4]
  len : cells.length = 1 + a * n
/-- one root, and no other -/
def One (n : Nat) (cells : List Nat) (v : Nat) : Prop := ∃ r, r < cells.length ∧ isRoot n cells r ∧ ca cells r = v ∧ ∀ r', r' < cells.length → isRoot n cells r' → ca cells r' = v → r' = r
theorem hangs_one (P : Shp a n cells) {v : Nat} {seen : List Nat} (ne : landC cells v ≠ []) (H : Seen a n (landC cells v) seen) (Cl : Clo a n (landC cells v) seen []) (h0 : (landC cells v).headD 0 ∈ seen) :
    seen.length = (landC cells v).length ↔ One n cells v := by
  have rng : ∀ x, x < cells.length → x ∈ List.range (1 + a * n) := fun x hx => List.mem_range.mpr (by rw [← P.len]; exact hx)
  have nd : (landC cells v).Nodup := List.Pairwise.filter _ List.nodup_range
  constructor
  · intro hl
    -- all are seen
    have full : ∀ x ∈ landC cells v, x ∈ seen := fun x hx => Classical.byContradiction fun z => by
      have := nodup_leN (a := x :: seen) (b := landC cells v) (List.nodup_cons.mpr ⟨z, H.nd⟩) fun k hk => by
        rcases List.mem_cons.mp hk with rfl | hk
        · exact hx
        · exact H.sub k hk
      simp at this
      omega
    obtain ⟨x0, r, e⟩ := List.exists_cons_of_ne_nil ne
    have m0 : x0 ∈ landC cells v := by rw [e]; simp
    obtain ⟨l0, c0⟩ := mem_landC.mp m0
    obtain ⟨k1, k2, k3⟩ := rootF_spec n cells x0
    refine ⟨rootF n cells x0, by omega, k2, by rw [k3, c0], fun r' hr' rr cr => ?_⟩
    let side : Nat → Bool := fun x => decide (rootF n cells x = r')
    have const : ∀ x ∈ landC cells v, ∀ y ∈ landC cells v, y ∈ nbr a n x → side x = side y := fun x hx y hy hnb => by
      obtain ⟨lx, cx⟩ := mem_landC.mp hx
      obtain ⟨ly, cy⟩ := mem_landC.mp hy
      have e : rootF n cells x = rootF n cells y := by
        rcases fin_in a P.ha n P.hn x (rng x lx) y hnb with ⟨z1, z2⟩ | ⟨z1, z2⟩
        · rw [rootF_in (c := y) z2 (by rw [z1, cx, cy]), z1]
        · rw [rootF_in (c := x) z1 (by rw [← z2, cx, cy]), ← z2]
      show decide _ = decide _
      rw [e]
    have s1 := H.reach side const x0 (full x0 m0)
    have m1 : r' ∈ landC cells v := mem_landC.mpr ⟨hr', cr⟩
    have s2' := H.reach side const r' (full r' m1)
    have t : side r' = true := decide_eq_true (rootF_root rr)
    rw [t] at s2'
    rw [← s2'] at s1
    exact (of_decide_eq_true s1).symm
  · rintro ⟨r, hr, rr, cr, uniq⟩
    have key : ∀ x, x < cells.length → ca cells x = v → (x ∈ seen ↔ r ∈ seen) := by
      intro x
      induction x using Nat.strongRecOn with
      | ind x ih =>
        intro hx hc
        by_cases h : isRoot n cells x
        · rw [uniq x hx h hc]
        · have x0 : x ≠ 0 := fun z => h (.inl z)
          have x1 : ca cells x = ca cells (inner n x) := Classical.byContradiction fun z => h (.inr z)
          have lt := inner_lt' (n := n) x0
          have il : inner n x < cells.length := by omega
          have ic : ca cells (inner n x) = v := by rw [← x1, hc]
          rw [← ih _ lt il ic]
          obtain ⟨t1, t2⟩ := fin_touch a P.ha n P.hn x (rng x hx) x0
          exact ⟨fun z => Cl x z (fun q => by cases q) _ (mem_landC.mpr ⟨il, ic⟩) t1, fun z => Cl _ z (fun q => by cases q) _ (mem_landC.mpr ⟨hx, hc⟩) t2⟩
    obtain ⟨x0, r0, e⟩ := List.exists_cons_of_ne_nil ne
    have m0 : x0 ∈ landC cells v := by rw [e]; simp
    obtain ⟨l0, c0⟩ := mem_landC.mp m0
    have h0' : x0 ∈ seen := by
      rw [e] at h0
      exact h0
    have hr2 := (key x0 l0 c0).mp h0'
    refine Nat.le_antisymm (nodup_leN H.nd H.sub) (nodup_leN nd fun x hx => ?_)
    obtain ⟨lx, cx⟩ := mem_landC.mp hx
    exact (key x lx cx).mpr hr2
/-- each land has one root: as many roots as lands, all of them there -/
theorem one_iff (P : Shp a n cells) {M : Nat} (lt : ∀ v ∈ cells, v < M) : (∀ v, v < M → One n cells v) ↔ ((∀ v, v < M → v ∈ cells) ∧ (crs n cells).length + 1 = M) := by
  have hl : (rts n cells).length = (crs n cells).length + 1 := by unfold rts; simp
  have pos : 0 < cells.length := by rw [P.len]; omega
  have rlt : ∀ r ∈ rts n cells, r < cells.length := fun r hr => by
    unfold rts at hr
    rcases List.mem_cons.mp hr with rfl | hr
    · exact pos
    · obtain ⟨i, hi, rfl⟩ := List.mem_map.mp hr
      have := List.mem_range.mp (List.mem_filter.mp hi).1
      omega
  have rnd : (rts n cells).Nodup := by
    unfold rts
    refine List.nodup_cons.mpr ⟨fun z => ?_, ?_⟩
    · obtain ⟨i, _, e⟩ := List.mem_map.mp z
      omega
    · exact List.Pairwise.map _ (fun x y (h : x ≠ y) => by omega) (List.Pairwise.filter _ List.nodup_range)
  have lab : ∀ r ∈ rts n cells, ca cells r < M := fun r hr => lt _ (ca_mem (rlt r hr))
  constructor
  · intro h
    refine ⟨fun v hv => ?_, ?_⟩
    · obtain ⟨r, hr, _, cr, _⟩ := h v hv
      rw [← cr]
      exact ca_mem hr
    · rw [← hl]
      have nd : ((rts n cells).map (ca cells)).Nodup := nodup_map rnd fun x hx y hy e => by
        obtain ⟨r, _, _, _, u⟩ := h (ca cells x) (lab x hx)
        rw [u x (rlt x hx) ((mem_rts (rlt x hx)).mp hx) rfl, u y (rlt y hy) ((mem_rts (rlt y hy)).mp hy) e.symm]
      have l1 := nodup_leN (b := List.range M) nd fun k hk => by
        obtain ⟨r, hr, rfl⟩ := List.mem_map.mp hk
        exact List.mem_range.mpr (lab r hr)
      have l2 := nodup_leN (a := List.range M) (b := (rts n cells).map (ca cells)) List.nodup_range fun v hv => by
        obtain ⟨r, hr, rr, cr, _⟩ := h v (List.mem_range.mp hv)
        exact List.mem_map.mpr ⟨r, (mem_rts hr).mpr rr, cr⟩
      simp at l1 l2
      omega
  · rintro ⟨h1, h2⟩ v hv
    have cover : ∀ v, v < M → v ∈ (rts n cells).map (ca cells) := fun v hv => by
      obtain ⟨i, hi, e⟩ := List.getElem_of_mem (h1 v hv)
      have ev : ca cells i = v := by
        have := ca_some hi
        rw [List.getElem?_eq_getElem hi] at this
        rw [← e]
        exact (Option.some.inj this).symm
      obtain ⟨k1, k2, k3⟩ := rootF_spec n cells i
      have kl : rootF n cells i < cells.length := by omega
      exact List.mem_map.mpr ⟨rootF n cells i, (mem_rts kl).mpr k2, by rw [k3, ev]⟩
    have nd := nodup_of_cover (L := (rts n cells).map (ca cells)) (m := M) (by rw [List.length_map, hl, h2]) cover
    obtain ⟨r, hr, cr⟩ := List.mem_map.mp (cover v hv)
    refine ⟨r, rlt r hr, (mem_rts (rlt r hr)).mp hr, cr, fun r' hr' rr' cr' => ?_⟩
    exact map_inj nd ((mem_rts hr').mpr rr') hr (by rw [cr', cr])
end
end S89

namespace S89
open PySem PD
theorem are_ints {xs : List Nat} {b : Nat} (hl : xs.length < 1000) : p_are_integers [tN xs, .int 0, iN b] = some (.bool (xs.all fun v => decide (v ≤ b))) := by
  have e : a1_are_integers [.dat (tN xs), .dat (.int 0), .dat (iN b), .un] = some (.d (.bool (xs.all fun v => decide (v ≤ b))), [.dat (tN xs), .dat (.int 0), .dat (iN b), .un]) := by
    refine sAll_on xs iN _ (by simp [bodyP, bodyI, startE, startI, sSeq, sRet, sAsg, sExp, sIfS, sNx, sV, sB, sC, PD.s2, toT, sTr, truth, bne_dec, sChain, sAnd, sOr, sNot, sIf, tAnd', tOr', tNot', sNil, sCons, sCall, allD, sN, allR, PD.res, sTup, sLst, sFr, gN, gT, gsNil, gsCons, sIsi, tyName, isSub, sOrE, sM1, sM1T, fAdd_int, fSub, fLe, fLt, fGt, fGe, eq_int, ne_int, cont?, setCont, List.replicate, fLen, sOwn, sApp, sSq]) rfl rfl fun v hv => ⟨_, rfl, rfl, ?_⟩
    have q : p_is_integer [iN v, .int 0, iN b] = some (.bool (decide (v ≤ b))) := by
      rw [integer_int]
      congr 2
      exact decide_eq_decide.mpr (by omega)
    obtain ⟨B, hB⟩ : ∃ z, z = decide (v ≤ b) := ⟨_, rfl⟩
    rw [← hB] at q ⊢
    simp [bodyP, bodyI, startE, startI, sSeq, sRet, sAsg, sExp, sIfS, sNx, sV, sB, sC, PD.s2, toT, sTr, truth, bne_dec, sChain, sAnd, sOr, sNot, sIf, tAnd', tOr', tNot', sNil, sCons, sCall, allD, sN, allR, PD.res, sTup, sLst, sFr, gN, gT, gsNil, gsCons, sIsi, tyName, isSub, sOrE, sM1, sM1T, fAdd_int, fSub, fLe, fLt, fGt, fGe, eq_int, ne_int, cont?, setCont, List.replicate, fLen, sOwn, sApp, wipeE, q]
  obtain ⟨B, hB⟩ : ∃ z, z = xs.all fun v => decide (v ≤ b) := ⟨_, rfl⟩
  rw [← hB] at e ⊢
  unfold p_are_integers g_are_integers
  simp [bodyP, bodyI, startE, startI, sSeq, sRet, sAsg, sExp, sIfS, sNx, sV, sB, sC, PD.s2, toT, sTr, truth, bne_dec, sChain, sAnd, sOr, sNot, sIf, tAnd', tOr', tNot', sNil, sCons, sCall, allD, sN, allR, PD.res, sTup, sLst, sFr, gN, gT, gsNil, gsCons, sIsi, tyName, isSub, sOrE, sM1, sM1T, fAdd_int, fSub, fLe, fLt, fGt, fGe, eq_int, ne_int, cont?, setCont, List.replicate, fLen, sOwn, sApp, e]
theorem le_maxN {xs : List Nat} {v : Nat} (h : v ∈ xs) : v ≤ PD.maxN xs := (le_foldl_max xs 0).2 v h
theorem maxN_mem : ∀ (xs : List Nat) (x : Nat), xs.foldl max x = x ∨ xs.foldl max x ∈ xs
  | [], x => .inl rfl
  | y :: r, x => by
    rw [List.foldl_cons]
    rcases maxN_mem r (max x y) with h | h
    · rw [h]
      rcases Nat.le_total x y with z | z
      · rw [Nat.max_eq_right z]
        exact .inr (by simp)
      · rw [Nat.max_eq_left z]
        exact .inl rfl
    · exact .inr (by simp [h])
theorem maxN_in {xs : List Nat} (h : xs ≠ []) : PD.maxN xs ∈ xs := by
  cases xs with
  | nil => exact absurd rfl h
  | cons x r =>
    show (x :: r).foldl max 0 ∈ _
    rw [List.foldl_cons, Nat.zero_max]
    rcases maxN_mem r x with e | e
    · rw [e]
      simp
    · simp [e]
section
variable {a n : Nat} {cells : List Nat}
def nubN (cells : List Nat) : Nat := (nubI (cells.map fun (k : Nat) => (k : Int))).length
theorem nub_iff {M : Nat} (lt : ∀ v ∈ cells, v < M) : nubN cells = M ↔ ∀ v, v < M → v ∈ cells := by
  have e : ((List.range M).map fun (k : Nat) => (k : Int)).length = M := by simp
  have nd : ((List.range M).map fun (k : Nat) => (k : Int)).Nodup := List.Pairwise.map _ (fun x y h => by omega) (List.nodup_range (n := M))
  have sub : ∀ k ∈ nubI (cells.map fun (k : Nat) => (k : Int)), k ∈ (List.range M).map fun (k : Nat) => (k : Int) := fun k hk => by
    obtain ⟨v, hv, rfl⟩ := List.mem_map.mp ((nubI_mem _ _).mp hk)
    exact List.mem_map.mpr ⟨v, List.mem_range.mpr (lt v hv), rfl⟩
  constructor
  · intro h v hv
    refine Classical.byContradiction fun z => ?_
    have key := nodup_le (a := (v : Int) :: nubI (cells.map fun (k : Nat) => (k : Int))) (b := (List.range M).map fun (k : Nat) => (k : Int)) (List.nodup_cons.mpr ⟨fun q => ?_, nubI_nodup _⟩) fun k hk => ?_
    · rw [e, List.length_cons] at key
      unfold nubN at h
      omega
    · obtain ⟨u, hu, e2⟩ := List.mem_map.mp ((nubI_mem _ _).mp q)
      have : u = v := by omega
      rw [this] at hu
      exact z hu
    · rcases List.mem_cons.mp hk with rfl | hk
      · exact List.mem_map.mpr ⟨v, List.mem_range.mpr hv, rfl⟩
      · exact sub k hk
  · intro h
    unfold nubN
    rw [← e]
    refine nodup_len (nubI_nodup _) nd fun k => ⟨sub k, fun hk => ?_⟩
    obtain ⟨v, hv, rfl⟩ := List.mem_map.mp hk
    exact (nubI_mem _ _).mpr (List.mem_map.mpr ⟨v, h v (List.mem_range.mp hv), rfl⟩)
theorem Shp.lens (P : Shp a n cells) : 3 ≤ a ∧ a ≤ 4 ∧ 1 ≤ n ∧ n ≤ 4 ∧ 0 < cells.length ∧ cells.length ≤ 17 := by
  have h1 := P.ha
  have h2 := P.hn
  have h3 := P.len
  have a1 : 3 ≤ a ∧ a ≤ 4 := by simp at h1; omega
  have n1 : 1 ≤ n ∧ n ≤ 4 := by simp at h2; omega
  have : a * n ≤ 4 * 4 := Nat.mul_le_mul a1.2 n1.2
  omega
theorem hang_eval (P : Shp a n cells) : p_hang_together [iN n, tN cells] = some (.bool (decide (nubN cells = PD.maxN cells + 1) && decide ((crs n cells).length + 1 = PD.maxN cells + 1))) := by
  obtain ⟨_, _, n1, n2, l1, l2⟩ := P.lens
  have ne : cells ≠ [] := fun z => by rw [z] at l1; simp at l1
  obtain ⟨M, hM⟩ : ∃ z, z = PD.maxN cells + 1 := ⟨_, rfl⟩
  have e0 : sLenSet (sV 1) [.dat (iN n), .dat (tN cells), .dat (iN M), .un, .un] = some (.d (iN (nubN cells)), [.dat (iN n), .dat (tN cells), .dat (iN M), .un, .un]) := by
    show (match intsOf (cells.map iN) with | some ns => if ns.length ≤ 4000 then some (Ob.d (.int (nubI ns).length), _) else none | none => none) = _
    rw [intsOf_nat]
    show (if _ then _ else _) = _
    rw [if_pos (by simp; omega)]
    rfl
  have e : c1_hang_together [.dat (iN n), .dat (tN cells), .dat (iN M), .un, .un] = some ((crs n cells).map (fun i => iN (i + 1)), [.dat (iN n), .dat (tN cells), .dat (iN M), .un, .un]) := by
    refine sComp_on (List.range (cells.length - 1)) (fun i => iN (i + 1)) (fun i => iN (i + 1)) _ (sRg2_small (by simp [bodyP, bodyI, startE, startI, sSeq, sRet, sAsg, sExp, sIfS, sNx, sV, sB, sC, PD.s2, toT, sTr, truth, bne_dec, sChain, sAnd, sOr, sNot, sIf, tAnd', tOr', tNot', sNil, sCons, sCall, allD, sN, allR, PD.res, sTup, sLst, sFr, gN, gT, gsNil, gsCons, sIsi, tyName, isSub, sOrE, sM1, sM1T, fAdd_int, fSub, fLe, fLt, fGt, fGe, eq_int, ne_int, cont?, setCont, List.replicate, fLen, sOwn, sApp]) (by omega)) rfl (by simp; omega) rfl fun i hi => ?_
    have hi := List.mem_range.mp hi
    have q1 := (ix_map (f := iN) (ca_some (by omega : i + 1 < cells.length))).2
    have q2 := (ix_map (f := iN) (ca_some (Nat.lt_trans (inner_lt (n := n) (Nat.succ_pos i)) (by omega : i + 1 < cells.length)))).2
    have q3 := inner_cell n1 (Nat.succ_pos i)
    simp only [Nat.succ_eq_add_one] at q2 q3
    refine ⟨_, rfl, rfl, ?_, ?_⟩
    · simp [bodyP, bodyI, startE, startI, sSeq, sRet, sAsg, sExp, sIfS, sNx, sV, sB, sC, PD.s2, toT, sTr, truth, bne_dec, sChain, sAnd, sOr, sNot, sIf, tAnd', tOr', tNot', sNil, sCons, sCall, allD, sN, allR, PD.res, sTup, sLst, sFr, gN, gT, gsNil, gsCons, sIsi, tyName, isSub, sOrE, sM1, sM1T, fAdd_int, fSub, fLe, fLt, fGt, fGe, eq_int, ne_int, cont?, setCont, List.replicate, fLen, sOwn, sApp, wipeE, q1, q2, q3]
      omega
    · simp [bodyP, bodyI, startE, startI, sSeq, sRet, sAsg, sExp, sIfS, sNx, sV, sB, sC, PD.s2, toT, sTr, truth, bne_dec, sChain, sAnd, sOr, sNot, sIf, tAnd', tOr', tNot', sNil, sCons, sCall, allD, sN, allR, PD.res, sTup, sLst, sFr, gN, gT, gsNil, gsCons, sIsi, tyName, isSub, sOrE, sM1, sM1T, fAdd_int, fSub, fLe, fLt, fGt, fGe, eq_int, ne_int, cont?, setCont, List.replicate, fLen, sOwn, sApp, wipeE]
  have hmx : ((PD.maxN cells : Nat) : Int) + 1 = (M : Nat) := by omega
  rw [← hM]
  have hmxD : fMax [tN cells] = some (iN (PD.maxN cells)) := fMax_tN ne
  obtain ⟨Nn, hNn⟩ : ∃ z, z = nubN cells := ⟨_, rfl⟩
  obtain ⟨Cr, hCr⟩ : ∃ z, z = (crs n cells).map (fun i => iN (i + 1)) := ⟨_, rfl⟩
  have hCl : (crs n cells).length = Cr.length := by rw [hCr, List.length_map]
  rw [hCl]
  rw [← hCr] at e
  obtain ⟨T, hT⟩ : ∃ z, z = tN cells := ⟨_, rfl⟩
  rw [← hT] at e e0 hmxD ⊢
  rw [← hNn] at e0 ⊢
  obtain ⟨LS, hLS⟩ : ∃ z, z = sLenSet (sV 1) := ⟨_, rfl⟩
  rw [← hLS] at e0
  unfold p_hang_together g_hang_together
  rw [← hLS]
  by_cases h : Nn = M
  · have h' : (Nn : Int) = (M : Nat) := by omega
    simp [bodyP, bodyI, startE, startI, sSeq, sRet, sAsg, sExp, sIfS, sNx, sV, sB, sC, PD.s2, toT, sTr, truth, bne_dec, sChain, sAnd, sOr, sNot, sIf, tAnd', tOr', tNot', sNil, sCons, sCall, allD, sN, allR, PD.res, sTup, sLst, sFr, gN, gT, gsNil, gsCons, sIsi, tyName, isSub, sOrE, sM1, sM1T, fAdd_int, fSub, fLe, fLt, fGt, fGe, eq_int, ne_int, cont?, setCont, List.replicate, fLen, sOwn, sApp, hmxD, hmx, e0, e, h, h']
    omega
  · have h' : ¬ (Nn : Int) = (M : Nat) := by omega
    simp [bodyP, bodyI, startE, startI, sSeq, sRet, sAsg, sExp, sIfS, sNx, sV, sB, sC, PD.s2, toT, sTr, truth, bne_dec, sChain, sAnd, sOr, sNot, sIf, tAnd', tOr', tNot', sNil, sCons, sCall, allD, sN, allR, PD.res, sTup, sLst, sFr, gN, gT, gsNil, gsCons, sIsi, tyName, isSub, sOrE, sM1, sM1T, fAdd_int, fSub, fLe, fLt, fGt, fGe, eq_int, ne_int, cont?, setCont, List.replicate, fLen, sOwn, sApp, hmxD, hmx, e0, e, h, h']
theorem chart_eval (P : Shp a n cells) : ∃ b, p_is_chart [ch a cells] = some (.bool b) ∧ (b = true ↔ 0 < PD.maxN cells ∧ PD.maxN cells ≤ n ∧ ∀ v, v < PD.maxN cells + 1 → One n cells v) := by
  obtain ⟨a1, a2, n1, n2, l1, l2⟩ := P.lens
  have ne : cells ≠ [] := fun z => by rw [z] at l1; simp at l1
  have lt : ∀ v ∈ cells, v < PD.maxN cells + 1 := fun v hv => Nat.lt_succ_of_le (le_maxN hv)
  have e1 := are_ints (xs := cells) (b := n) (by omega)
  have hd : fDivmod [.int ((cells.length : Int) - 1), iN a] = some (.tuple [iN n, .int 0]) := by
    have e2 : ((cells.length : Int) - 1) = ((a * n : Nat) : Int) := by rw [P.len]; omega
    rw [e2]
    show (if 0 < (a : Int) ∧ (a : Int).natAbs < 1073741824 then some (PyData.tuple [.int (((a * n : Nat) : Int) / (a : Int)), .int (((a * n : Nat) : Int) % (a : Int))]) else none) = _
    rw [if_pos (by omega), ← Int.natCast_ediv, ← Int.natCast_emod, Nat.mul_div_cancel_left _ (by omega), Nat.mul_mod_right]
    rfl
  have hmxD : fMax [tN cells] = some (iN (PD.maxN cells)) := fMax_tN ne
  have hg := hang_eval P
  have ia1 : (3 : Int) ≤ (a : Nat) := by omega
  have ia2 : ((a : Nat) : Int) ≤ 4 := by omega
  have in1 : (1 : Int) ≤ (n : Nat) := by omega
  have in2 : ((n : Nat) : Int) ≤ 4 := by omega
  have all_iff : (cells.all fun v => decide (v ≤ n)) = true ↔ PD.maxN cells ≤ n := by
    rw [List.all_eq_true]
    constructor
    · intro h
      simpa using h _ (maxN_in ne)
    · intro h v hv
      simpa using Nat.le_trans (le_maxN hv) h
  have oneI := one_iff P lt
  have nubI' := nub_iff lt
  obtain ⟨X, hX⟩ : ∃ z, z = PD.maxN cells := ⟨_, rfl⟩
  obtain ⟨A, hA⟩ : ∃ z, z = cells.all fun v => decide (v ≤ n) := ⟨_, rfl⟩
  obtain ⟨G, hG⟩ : ∃ z, z = (decide (nubN cells = PD.maxN cells + 1) && decide ((crs n cells).length + 1 = PD.maxN cells + 1)) := ⟨_, rfl⟩
  rw [← hG] at hg
  rw [← hA] at e1 all_iff
  rw [← hX] at all_iff hmxD oneI nubI' hG ⊢
  have hGi : G = true ↔ ∀ v, v < X + 1 → One n cells v := by
    rw [hG, Bool.and_eq_true, decide_eq_true_eq, decide_eq_true_eq, nubI']
    exact oneI.symm
  obtain ⟨T, hT⟩ : ∃ z, z = cells.map iN := ⟨_, rfl⟩
  have hTl : T.length = cells.length := by rw [hT, List.length_map]
  change p_are_integers [.tuple (cells.map iN), .int 0, iN n] = _ at e1
  change fMax [.tuple (cells.map iN)] = _ at hmxD
  change p_hang_together [iN n, .tuple (cells.map iN)] = _ at hg
  rw [← hT] at e1 hmxD hg
  have hch : ch a cells = .tuple [iN a, .tuple T] := by rw [hT]
  rw [hch]
  by_cases h1 : X ≤ n
  · have hA1 : A = true := all_iff.mpr h1
    rw [hA1] at e1
    by_cases h2 : X = 0
    · refine ⟨false, ?_, by simp; omega⟩
      have h2' : (X : Int) = 0 := by omega
      unfold p_is_chart g_is_chart
      simp [bodyP, bodyI, startE, startI, sSeq, sRet, sAsg, sExp, sIfS, sNx, sV, sB, sC, PD.s2, toT, sTr, truth, bne_dec, sChain, sAnd, sOr, sNot, sIf, tAnd', tOr', tNot', sNil, sCons, sCall, allD, sN, allR, PD.res, sTup, sLst, sFr, gN, gT, gsNil, gsCons, sIsi, tyName, isSub, sOrE, sM1, sM1T, fAdd_int, fSub, fLe, fLt, fGt, fGe, eq_int, ne_int, cont?, setCont, List.replicate, fLen, sOwn, sApp, pair_tup, integer_int, ia1, ia2, in1, in2, hTl, hd, e1, hmxD, h2']
    · refine ⟨G, ?_, ?_⟩
      · have h2' : ¬ (X : Int) = 0 := by omega
        unfold p_is_chart g_is_chart
        simp [bodyP, bodyI, startE, startI, sSeq, sRet, sAsg, sExp, sIfS, sNx, sV, sB, sC, PD.s2, toT, sTr, truth, bne_dec, sChain, sAnd, sOr, sNot, sIf, tAnd', tOr', tNot', sNil, sCons, sCall, allD, sN, allR, PD.res, sTup, sLst, sFr, gN, gT, gsNil, gsCons, sIsi, tyName, isSub, sOrE, sM1, sM1T, fAdd_int, fSub, fLe, fLt, fGt, fGe, eq_int, ne_int, cont?, setCont, List.replicate, fLen, sOwn, sApp, pair_tup, integer_int, ia1, ia2, in1, in2, hTl, hd, e1, hmxD, h2, h2', hg]
      · rw [hGi]
        constructor
        · intro z
          exact ⟨by omega, h1, z⟩
        · intro z
          exact z.2.2
  · have hA1 : A = false := by
      cases hA2 : A with
      | false => rfl
      | true => exact absurd (all_iff.mp hA2) h1
    rw [hA1] at e1
    refine ⟨false, ?_, by simp; omega⟩
    unfold p_is_chart g_is_chart
    simp [bodyP, bodyI, startE, startI, sSeq, sRet, sAsg, sExp, sIfS, sNx, sV, sB, sC, PD.s2, toT, sTr, truth, bne_dec, sChain, sAnd, sOr, sNot, sIf, tAnd', tOr', tNot', sNil, sCons, sCall, allD, sN, allR, PD.res, sTup, sLst, sFr, gN, gT, gsNil, gsCons, sIsi, tyName, isSub, sOrE, sM1, sM1T, fAdd_int, fSub, fLe, fLt, fGt, fGe, eq_int, ne_int, cont?, setCont, List.replicate, fLen, sOwn, sApp, pair_tup, integer_int, ia1, ia2, in1, in2, hTl, hd, e1]
end
end S89

namespace S89
open PySem PD
theorem fCountT_nat (ns : List Nat) (k : Nat) : fCountT (tN ns) (iN k) = some (iN (ns.count k)) := by
  show (match intsOf (ns.map iN) with | some ns => some (PyData.int (ns.count (k : Int) : Nat)) | none => none) = _
  rw [intsOf_nat]
  show some (PyData.int _) = _
  rw [count_nat]
theorem cut_mid (xs : List PyData) (lo hi : Nat) (h : lo ≤ hi) (h2 : hi ≤ xs.length) : cutD xs (some (lo : Int)) (some (hi : Int)) = (xs.drop lo).take (hi - lo) := by
  unfold cutD
  rw [HT.sIx_nat, HT.sIx_nat, Nat.min_eq_left h2, Nat.min_eq_left (by omega)]
section
variable {a n m : Nat} {cells : List Nat}
/-- the cells of an arm -/
def armOf (n : Nat) (cells : List Nat) (k : Nat) : List Nat := (cells.drop (1 + k * n)).take n
theorem armOf_len (V : Valid a n m cells) {k : Nat} (hk : k < a) : (armOf n cells k).length = n := by
  have h := V.len
  have : (k + 1) * n ≤ a * n := Nat.mul_le_mul_right n hk
  rw [Nat.add_mul] at this
  unfold armOf
  rw [List.length_take, List.length_drop]
  omega
theorem armOf_get (V : Valid a n m cells) {k j : Nat} (hk : k < a) (hj : j < n) : (armOf n cells k)[j]? = some (ca cells (1 + k * n + j)) := by
  have h := V.len
  have : (k + 1) * n ≤ a * n := Nat.mul_le_mul_right n hk
  rw [Nat.add_mul] at this
  unfold armOf
  rw [List.getElem?_take_of_lt hj, List.getElem?_drop]
  exact ca_some (by omega)
theorem arm_rows (V : Valid a n m cells) : p_arm_rows [ch a cells] = some (.list ((List.range a).map fun k => tN (armOf n cells k))) := by
  have hlen := V.len_lt
  have ha := V.ha
  have hn := V.hn
  have hL := V.len
  have el : p_length_of [ch a cells] = some (iN n) := by
    rw [← V.div]
    exact length_of hlen.1 (by omega) (by omega)
  obtain ⟨C, hC⟩ : ∃ Z, Z = cells.map iN := ⟨_, rfl⟩
  have hCl : C.length = cells.length := by rw [hC, List.length_map]
  have hch : ch a cells = .tuple [iN a, .tuple C] := by rw [hC]
  rw [hch] at el ⊢
  have c1 : c1_arm_rows [.dat (.tuple [iN a, .tuple C]), .dat (iN a), .dat (.tuple C), .dat (iN n), .un] = some ((List.range a).map (fun k => tN (armOf n cells k)), [.dat (.tuple [iN a, .tuple C]), .dat (iN a), .dat (.tuple C), .dat (iN n), .un]) := by
    refine sComp_all (List.range a) iN _ (sRg1_small (by simp [bodyP, bodyI, startE, startI, sSeq, sRet, sAsg, sExp, sIfS, sNx, sV, sB, sC, PD.s2, toT, sTr, truth, bne_dec, sChain, sAnd, sOr, sNot, sIf, tAnd', tOr', tNot', sNil, sCons, sCall, allD, sN, allR, PD.res, sTup, sLst, sFr, gN, gT, gsNil, gsCons, sIsi, tyName, isSub, sOrE, sM1, sM1T, fAdd_int, fSub, fLe, fLt, fGt, fGe, eq_int, ne_int, cont?, setCont, List.replicate, fLen, sOwn, sApp]) (by omega)) rfl (by simp; omega) rfl fun k hk => ⟨_, rfl, rfl, ?_⟩
    have hk := List.mem_range.mp hk
    have b1 : (k + 1) * n ≤ a * n := Nat.mul_le_mul_right n hk
    rw [Nat.add_mul] at b1
    obtain ⟨lo, hlo⟩ : ∃ z, z = 1 + k * n := ⟨_, rfl⟩
    obtain ⟨hi, hhi⟩ : ∃ z, z = 1 + k * n + n := ⟨_, rfl⟩
    have e1 : (1 : Int) + (k : Int) * (n : Int) = (lo : Int) := by rw [hlo]; simp
    have e2 : (1 : Int) + ((k : Int) + 1) * (n : Int) = (hi : Int) := by
      rw [hhi, Int.add_mul, ← Int.natCast_mul]
      omega
    have m1 := fMul_small (k : Int) (n : Int) (by omega)
    have m2 := fMul_small ((k : Int) + 1) (n : Int) (by omega)
    have cm := cut_mid C lo hi (by omega) (by rw [hCl]; omega)
    have cc : (C.drop lo).take (hi - lo) = (armOf n cells k).map iN := by
      unfold armOf
      rw [hC, hhi, hlo, Nat.add_sub_cancel_left, ← List.map_drop, ← List.map_take]
    rw [cc] at cm
    obtain ⟨A, hA⟩ : ∃ Z, Z = (armOf n cells k).map iN := ⟨_, rfl⟩
    show _ = some (Ob.d (PyData.tuple ((armOf n cells k).map iN)), _)
    rw [← hA] at cm ⊢
    simp [bodyP, bodyI, startE, startI, sSeq, sRet, sAsg, sExp, sIfS, sNx, sV, sB, sC, PD.s2, toT, sTr, truth, bne_dec, sChain, sAnd, sOr, sNot, sIf, tAnd', tOr', tNot', sNil, sCons, sCall, allD, sN, allR, PD.res, sTup, sLst, sFr, gN, gT, gsNil, gsCons, sIsi, tyName, isSub, sOrE, sM1, sM1T, fAdd_int, fSub, fLe, fLt, fGt, fGe, eq_int, ne_int, cont?, setCont, List.replicate, fLen, sOwn, sApp, wipeE, sSl, fSl, pSome, m1, m2, e1, e2, cm]
  unfold p_arm_rows g_arm_rows
  simp [bodyP, bodyI, startE, startI, sSeq, sRet, sAsg, sExp, sIfS, sNx, sV, sB, sC, PD.s2, toT, sTr, truth, bne_dec, sChain, sAnd, sOr, sNot, sIf, tAnd', tOr', tNot', sNil, sCons, sCall, allD, sN, allR, PD.res, sTup, sLst, sFr, gN, gT, gsNil, gsCons, sIsi, tyName, isSub, sOrE, sM1, sM1T, fAdd_int, fSub, fLe, fLt, fGt, fGe, eq_int, ne_int, cont?, setCont, List.replicate, fLen, sOwn, sApp, el, c1]
end
end S89

namespace S89
open PySem PD PySem.W
/-! ### alike -/
theorem asc_eq : ∀ {xs ys : List Nat}, xs.Pairwise (· < ·) → ys.Pairwise (· < ·) → (∀ v, v ∈ xs ↔ v ∈ ys) → xs = ys
  | [], [], _, _, _ => rfl
  | [], y :: _, _, _, h => by have := (h y).mpr (by simp); cases this
  | x :: _, [], _, _, h => by have := (h x).mp (by simp); cases this
  | x :: r, y :: s, hx, hy, h => by
    rw [List.pairwise_cons] at hx hy
    have e : x = y := by
      rcases List.mem_cons.mp ((h x).mp (by simp)) with q | q
      · exact q
      · rcases List.mem_cons.mp ((h y).mpr (by simp)) with q2 | q2
        · exact q2.symm
        · have h1 := hy.1 x q
          have h2 := hx.1 y q2
          omega
    subst e
    congr 1
    refine asc_eq hx.2 hy.2 fun v => ?_
    constructor
    · intro hv
      rcases List.mem_cons.mp ((h v).mp (by simp [hv])) with q | q
      · have := hx.1 v hv
        omega
      · exact q
    · intro hv
      rcases List.mem_cons.mp ((h v).mpr (by simp [hv])) with q | q
      · have := hy.1 v hv
        omega
      · exact q
theorem asc_of {xs : List Nat} (nd : xs.Nodup) (pw : xs.Pairwise (· ≤ ·)) : xs.Pairwise (· < ·) := by
  refine (List.Pairwise.and nd pw).imp fun h => ?_
  omega
theorem nbr_asc : ∀ a ∈ [3, 4], ∀ n ∈ [1, 2, 3, 4], ∀ c ∈ List.range (1 + a * n), (nbr a n c).Pairwise (· < ·) := by decide +kernel
section
variable {a n m : Nat} {cells : List Nat}
theorem length_ok (h : 1 ≤ n ∧ n ≤ 4) : p_check_length [iN n, .int 4] = some .none := by
  have q : p_is_integer [iN n, .int 1, .int 4] = some (.bool true) := by rw [integer_int, decide_eq_true (by omega)]
  unfold p_check_length g_check_length
  simp [bodyP, bodyI, startE, startI, sSeq, sRet, sAsg, sExp, sIfS, sNx, sV, sB, sC, PD.s2, toT, sTr, truth, bne_dec, sChain, sAnd, sOr, sNot, sIf, tAnd', tOr', tNot', sNil, sCons, sCall, allD, sN, allR, PD.res, sTup, sLst, sFr, gN, gT, gsNil, gsCons, sIsi, tyName, isSub, sOrE, sM1, sM1T, fAdd_int, fSub, fLe, fLt, fGt, fGe, eq_int, ne_int, cont?, setCont, List.replicate, fLen, sOwn, sApp, q]
end
end S89

namespace S89
open PySem PD PySem.W
section
variable {a n m : Nat} {cells : List Nat}
theorem enumD_nat (xs : List Nat) : enumD (xs.map iN) = (List.range xs.length).map fun i => .tuple [iN i, iN (ca xs i)] := by
  apply List.ext_getElem?
  intro i
  unfold enumD
  rw [List.getElem?_mapIdx, List.getElem?_map, List.getElem?_map]
  by_cases h : i < xs.length
  · rw [List.getElem?_range h, ca_some h]
    rfl
  · rw [List.getElem?_eq_none (by omega), List.getElem?_eq_none (by simp; omega)]
    rfl
theorem joined_map {h : Nat} {rows : List (List Nat)} (hr : rows.length ≤ 10) (hl : ∀ r ∈ rows, r.length ≤ 100) : p_joined_map [iN h, .tuple (rows.map tN)] = some (ch rows.length (h :: rows.flatten)) := by
  have fl : ∀ i, (rows.take i).flatten.length ≤ i * 100 := fun i => by
    induction i with
    | zero => simp
    | succ i ih =>
      rw [List.take_add_one, List.flatten_append, List.length_append]
      cases e : rows[i]? with
      | none =>
        show _ + 0 ≤ _
        omega
      | some r =>
        have := hl r (List.mem_of_getElem? e)
        have e2 : (Option.some r).toList.flatten.length = r.length := by simp
        rw [e2]
        omega
  obtain ⟨R, hR⟩ : ∃ z, z = rows.map tN := ⟨_, rfl⟩
  have hRl : R.length = rows.length := by rw [hR, List.length_map]
  let st : Nat → Sl → Ev := fun i x => [.dat (iN h), .dat (.tuple R), .own ((h :: (rows.take i).flatten).map iN), x]
  have loop : ∃ ρ', l1_joined_map (st 0 .un) = some (.nx, ρ') ∧ ∃ x, ρ' = st R.length x := by
    refine sFor_inv (items := R) (ρ1 := st 0 .un) (fun i ρ => ∃ x, ρ = st i x) rfl ⟨_, rfl⟩ ?_
    rintro i d ρ hd ⟨x, rfl⟩
    rw [hR, List.getElem?_map, Option.map_eq_some_iff] at hd
    obtain ⟨r, h1, rfl⟩ := hd
    have hi := (List.getElem?_eq_some_iff.mp h1).1
    have rl := hl r (List.mem_of_getElem? h1)
    have e : ((h :: (rows.take (i + 1)).flatten).map iN) = ((h :: (rows.take i).flatten).map iN) ++ r.map iN := by
      rw [List.take_add_one, h1]
      simp
    have f1 := fl i
    obtain ⟨O, hO⟩ : ∃ z, z = (h :: (rows.take i).flatten).map iN := ⟨_, rfl⟩
    have ol : O.length ≤ 10000 := by
      rw [hO, List.length_map, List.length_cons]
      omega
    obtain ⟨Y, hY⟩ : ∃ z, z = r.map iN := ⟨_, rfl⟩
    have yl : Y.length ≤ 100 := by rw [hY, List.length_map]; exact rl
    refine ⟨[.dat (iN h), .dat (.tuple R), .own O, .dat (.tuple Y)], .nx, st (i + 1) (.dat (tN r)), by rw [hO, hY]; rfl, ?_, .inl rfl, _, rfl⟩
    show b1_joined_map _ = some (.nx, [.dat (iN h), .dat (.tuple R), .own ((h :: (rows.take (i + 1)).flatten).map iN), .dat (.tuple (r.map iN))])
    rw [e, ← hO, ← hY]
    have ok : O.length + Y.length ≤ 1000000 := by omega
    unfold b1_joined_map
    simp [bodyP, bodyI, startE, startI, sSeq, sRet, sAsg, sExp, sIfS, sNx, sV, sB, sC, PD.s2, toT, sTr, truth, bne_dec, sChain, sAnd, sOr, sNot, sIf, tAnd', tOr', tNot', sNil, sCons, sCall, allD, sN, allR, PD.res, sTup, sLst, sFr, gN, gT, gsNil, gsCons, sIsi, tyName, isSub, sOrE, sM1, sM1T, fAdd_int, fSub, fLe, fLt, fGt, fGe, eq_int, ne_int, cont?, setCont, List.replicate, fLen, sOwn, sApp, sExtT, ok]
  obtain ⟨ρ', e, x, rfl⟩ := loop
  have et : rows.take R.length = rows := by rw [hRl, List.take_length]
  have e' : l1_joined_map [.dat (iN h), .dat (.tuple R), .own [iN h], .un] = some (.nx, [.dat (iN h), .dat (.tuple R), .own ((h :: rows.flatten).map iN), x]) := by
    have q : st R.length x = [.dat (iN h), .dat (.tuple R), .own ((h :: rows.flatten).map iN), x] := by
      show [Sl.dat (iN h), .dat (.tuple R), .own ((h :: (rows.take R.length).flatten).map iN), x] = _
      rw [et]
    rw [← q]
    exact e
  rw [← hR]
  show p_joined_map [iN h, .tuple R] = some (.tuple [iN rows.length, .tuple ((h :: rows.flatten).map iN)])
  obtain ⟨O, hO⟩ : ∃ z, z = (h :: rows.flatten).map iN := ⟨_, rfl⟩
  rw [← hO] at e' ⊢
  unfold p_joined_map g_joined_map
  simp [bodyP, bodyI, startE, startI, sSeq, sRet, sAsg, sExp, sIfS, sNx, sV, sB, sC, PD.s2, toT, sTr, truth, bne_dec, sChain, sAnd, sOr, sNot, sIf, tAnd', tOr', tNot', sNil, sCons, sCall, allD, sN, allR, PD.res, sTup, sLst, sFr, gN, gT, gsNil, gsCons, sIsi, tyName, isSub, sOrE, sM1, sM1T, fAdd_int, fSub, fLe, fLt, fGt, fGe, eq_int, ne_int, cont?, setCont, List.replicate, fLen, sOwn, sApp, sLst, e', fTupOf, hRl]
structure Rws (a n : Nat) (rows : List (List Nat)) : Prop where
  ha : rows.length = a
  hn : ∀ r ∈ rows, r.length = n
  lo : ∀ r ∈ rows, ∀ v ∈ r, v ≤ 4
end
end S89

namespace S89
open PySem PD
/-- the lands that one meets, each that is not the one before -/
def met (b : Nat) : List Nat → List Nat
  | [] => []
  | x :: r => if x = b then met x r else x :: met x r
/-- the last one, b ahead of all -/
def lastOf (b : Nat) : List Nat → Nat
  | [] => b
  | x :: r => lastOf x r
theorem lastOf_app (b : Nat) (x : Nat) : ∀ r : List Nat, lastOf b (r ++ [x]) = x
  | [] => rfl
  | y :: r => lastOf_app y x r
theorem met_app (b x : Nat) (r : List Nat) : met b (r ++ [x]) = met b r ++ (if x = lastOf b r then [] else [x]) := by
  induction r generalizing b with
  | nil =>
    show (if x = b then [] else [x]) = _
    rfl
  | cons y r ih =>
    show (if y = b then met y (r ++ [x]) else y :: met y (r ++ [x])) = (if y = b then met y r else y :: met y r) ++ (if x = lastOf y r then [] else [x])
    rw [ih y]
    split <;> simp
theorem met_len (r : List Nat) : ∀ b : Nat, (met b r).length ≤ r.length := by
  induction r with
  | nil => intro b; exact Nat.le_refl _
  | cons y r ih =>
    intro b
    show (if y = b then met y r else y :: met y r).length ≤ _
    have := ih y
    split <;> simp <;> omega
theorem take_succ_get {xs : List Nat} {i x : Nat} (h : xs[i]? = some x) : xs.take (i + 1) = xs.take i ++ [x] := by
  rw [List.take_add_one, h]
  rfl
theorem lands_met (b : Nat) (row : List Nat) (hl : row.length < 1000) : p_lands_met [iN b, tN row] = some (tN (met b row)) := by
  obtain ⟨R, hR⟩ : ∃ Z, Z = row.map iN := ⟨_, rfl⟩
  have hRl : R.length = row.length := by rw [hR, List.length_map]
  let st : Nat → Sl → Ev := fun i x => [.dat (iN b), .dat (.tuple R), .own ((met b (row.take i)).map iN), .dat (iN (lastOf b (row.take i))), x]
  have loop : ∃ ρ', l1_lands_met (st 0 .un) = some (.nx, ρ') ∧ ∃ x, ρ' = st R.length x := by
    refine sFor_inv (items := R) (ρ1 := st 0 .un) (fun i ρ => ∃ x, ρ = st i x) rfl ⟨_, rfl⟩ ?_
    rintro i d ρ hd ⟨x, rfl⟩
    rw [hR, List.getElem?_map, Option.map_eq_some_iff] at hd
    obtain ⟨v, h1, rfl⟩ := hd
    have hi := (List.getElem?_eq_some_iff.mp h1).1
    have e1 : met b (row.take (i + 1)) = met b (row.take i) ++ (if v = lastOf b (row.take i) then [] else [v]) := by rw [take_succ_get h1, met_app]
    have e2 : lastOf b (row.take (i + 1)) = v := by rw [take_succ_get h1, lastOf_app]
    refine ⟨[.dat (iN b), .dat (.tuple R), .own ((met b (row.take i)).map iN), .dat (iN (lastOf b (row.take i))), .dat (iN v)], .nx, st (i + 1) (.dat (iN v)), rfl, ?_, .inl rfl, _, rfl⟩
    show b1_lands_met _ = some (.nx, [.dat (iN b), .dat (.tuple R), .own ((met b (row.take (i + 1))).map iN), .dat (iN (lastOf b (row.take (i + 1)))), .dat (iN v)])
    rw [e1, e2]
    have hO : ((met b (row.take i)).map iN).length < 1000000 := by
      rw [List.length_map]
      have := met_len (row.take i) b
      have : (row.take i).length ≤ row.length := by rw [List.length_take]; omega
      omega
    rw [List.map_append]
    obtain ⟨O, hO2⟩ : ∃ Z, Z = (met b (row.take i)).map iN := ⟨_, rfl⟩
    rw [← hO2] at hO ⊢
    generalize lastOf b (row.take i) = w
    unfold b1_lands_met
    by_cases hv : v = w
    · subst hv
      simp [bodyP, bodyI, startE, startI, sSeq, sRet, sAsg, sExp, sIfS, sNx, sV, sB, sC, PD.s2, toT, sTr, truth, bne_dec, sChain, sAnd, sOr, sNot, sIf, tAnd', tOr', tNot', sNil, sCons, sCall, allD, sN, allR, PD.res, sTup, sLst, sFr, gN, gT, gsNil, gsCons, sIsi, tyName, isSub, sOrE, sM1, sM1T, fAdd_int, fSub, fLe, fLt, fGt, fGe, eq_int, ne_int, cont?, setCont, List.replicate, fLen, sOwn, sApp]
    · have hv' : ¬ (v : Int) = (w : Nat) := by omega
      simp [bodyP, bodyI, startE, startI, sSeq, sRet, sAsg, sExp, sIfS, sNx, sV, sB, sC, PD.s2, toT, sTr, truth, bne_dec, sChain, sAnd, sOr, sNot, sIf, tAnd', tOr', tNot', sNil, sCons, sCall, allD, sN, allR, PD.res, sTup, sLst, sFr, gN, gT, gsNil, gsCons, sIsi, tyName, isSub, sOrE, sM1, sM1T, fAdd_int, fSub, fLe, fLt, fGt, fGe, eq_int, ne_int, cont?, setCont, List.replicate, fLen, sOwn, sApp, hv, hv', hO]
  obtain ⟨ρ', e, x, rfl⟩ := loop
  have et : row.take R.length = row := by rw [hRl, List.take_length]
  have e' : l1_lands_met [.dat (iN b), .dat (.tuple R), .own [], .dat (iN b), .un] = some (.nx, [.dat (iN b), .dat (.tuple R), .own ((met b row).map iN), .dat (iN (lastOf b row)), x]) := by
    have : st R.length x = [.dat (iN b), .dat (.tuple R), .own ((met b row).map iN), .dat (iN (lastOf b row)), x] := by
      show [Sl.dat (iN b), .dat (.tuple R), .own ((met b (row.take R.length)).map iN), .dat (iN (lastOf b (row.take R.length))), x] = _
      rw [et]
    rw [← this]
    exact e
  show p_lands_met [iN b, .tuple (row.map iN)] = some (.tuple ((met b row).map iN))
  rw [← hR]
  obtain ⟨O, hO⟩ : ∃ Z, Z = (met b row).map iN := ⟨_, rfl⟩
  rw [← hO] at e' ⊢
  unfold p_lands_met g_lands_met
  simp [bodyP, bodyI, startE, startI, sSeq, sRet, sAsg, sExp, sIfS, sNx, sV, sB, sC, PD.s2, toT, sTr, truth, bne_dec, sChain, sAnd, sOr, sNot, sIf, tAnd', tOr', tNot', sNil, sCons, sCall, allD, sN, allR, PD.res, sTup, sLst, sFr, gN, gT, gsNil, gsCons, sIsi, tyName, isSub, sOrE, sM1, sM1T, fAdd_int, fSub, fLe, fLt, fGt, fGe, eq_int, ne_int, cont?, setCont, List.replicate, fLen, sOwn, sApp, sLst, e', fTupOf]
section
variable {a n m : Nat} {cells : List Nat}
theorem Valid.ix0 (V : Valid a n m cells) : fIx (tN cells) (.int 0) = some (iN (ca cells 0)) := (ix_map (f := iN) (ca_some V.len_lt.1)).2
/-- the lands along an arm -/
def ordOf (n : Nat) (cells : List Nat) (k : Nat) : List Nat := met (ca cells 0) (armOf n cells k)
def ords (a n : Nat) (cells : List Nat) : List (List Nat) := (List.range a).map (ordOf n cells)
theorem orders (V : Valid a n m cells) : p_orders [ch a cells] = some (.tuple ((ords a n cells).map tN)) := by
  have ha := V.ha
  have hn := V.hn
  have er := arm_rows V
  have h0 := V.ix0
  have hk := V.check
  obtain ⟨C, hC⟩ : ∃ Z, Z = tN cells := ⟨_, rfl⟩
  obtain ⟨Ch, hCh⟩ : ∃ Z, Z = ch a cells := ⟨_, rfl⟩
  have hix : fIx Ch (.int 1) = some C := by rw [hCh, hC]; rfl
  rw [← hCh] at er hk ⊢
  rw [← hC] at h0
  have e0 : (ords a n cells).map tN = (List.range a).map fun k => tN (ordOf n cells k) := by unfold ords; rw [List.map_map]; rfl
  rw [e0]
  obtain ⟨A, hA⟩ : ∃ Z, Z = (List.range a).map fun k => tN (armOf n cells k) := ⟨_, rfl⟩
  have c1 : c1_orders [.dat Ch, .un] = some ((List.range a).map (fun k => tN (ordOf n cells k)), [.dat Ch, .un]) := by
    refine sComp_all (List.range a) (fun k => tN (armOf n cells k)) _ (by rw [← hA] at er ⊢; simp [bodyP, bodyI, startE, startI, sSeq, sRet, sAsg, sExp, sIfS, sNx, sV, sB, sC, PD.s2, toT, sTr, truth, bne_dec, sChain, sAnd, sOr, sNot, sIf, tAnd', tOr', tNot', sNil, sCons, sCall, allD, sN, allR, PD.res, sTup, sLst, sFr, gN, gT, gsNil, gsCons, sIsi, tyName, isSub, sOrE, sM1, sM1T, fAdd_int, fSub, fLe, fLt, fGt, fGe, eq_int, ne_int, cont?, setCont, List.replicate, fLen, sOwn, sApp, sSq, er]) rfl (by simp; omega) rfl fun k hk => ⟨_, rfl, rfl, ?_⟩
    have hk := List.mem_range.mp hk
    have lm := lands_met (ca cells 0) (armOf n cells k) (by rw [armOf_len V hk]; omega)
    obtain ⟨W, hW⟩ : ∃ Z, Z = tN (armOf n cells k) := ⟨_, rfl⟩
    rw [← hW] at lm ⊢
    obtain ⟨U, hU⟩ : ∃ Z, Z = tN (ordOf n cells k) := ⟨_, rfl⟩
    rw [← hU]
    have lm' : p_lands_met [iN (ca cells 0), W] = some U := by rw [hU]; exact lm
    simp [bodyP, bodyI, startE, startI, sSeq, sRet, sAsg, sExp, sIfS, sNx, sV, sB, sC, PD.s2, toT, sTr, truth, bne_dec, sChain, sAnd, sOr, sNot, sIf, tAnd', tOr', tNot', sNil, sCons, sCall, allD, sN, allR, PD.res, sTup, sLst, sFr, gN, gT, gsNil, gsCons, sIsi, tyName, isSub, sOrE, sM1, sM1T, fAdd_int, fSub, fLe, fLt, fGt, fGe, eq_int, ne_int, cont?, setCont, List.replicate, fLen, sOwn, sApp, wipeE, hix, h0, lm']
  obtain ⟨Z, hZ⟩ : ∃ Z, Z = (List.range a).map (fun k => tN (ordOf n cells k)) := ⟨_, rfl⟩
  rw [← hZ] at c1 ⊢
  unfold p_orders g_orders
  simp [bodyP, bodyI, startE, startI, sSeq, sRet, sAsg, sExp, sIfS, sNx, sV, sB, sC, PD.s2, toT, sTr, truth, bne_dec, sChain, sAnd, sOr, sNot, sIf, tAnd', tOr', tNot', sNil, sCons, sCall, allD, sN, allR, PD.res, sTup, sLst, sFr, gN, gT, gsNil, gsCons, sIsi, tyName, isSub, sOrE, sM1, sM1T, fAdd_int, fSub, fLe, fLt, fGt, fGe, eq_int, ne_int, cont?, setCont, List.replicate, fLen, sOwn, sApp, hk, c1, fTupOf]
theorem lands_on (V : Valid a n m cells) : p_lands_on [ch a cells] = some (tN ((ords a n cells).map List.length)) := by
  have ha := V.ha
  have eo := orders V
  obtain ⟨Ch, hCh⟩ : ∃ Z, Z = ch a cells := ⟨_, rfl⟩
  rw [← hCh] at eo ⊢
  obtain ⟨O, hO⟩ : ∃ Z, Z = (ords a n cells).map tN := ⟨_, rfl⟩
  have hl : (ords a n cells).length = a := by unfold ords; simp
  have c1 : c1_lands_on [.dat Ch, .un] = some ((ords a n cells).map (fun o => iN o.length), [.dat Ch, .un]) := by
    refine sComp_all (ords a n cells) tN _ (by rw [← hO] at eo ⊢; simp [bodyP, bodyI, startE, startI, sSeq, sRet, sAsg, sExp, sIfS, sNx, sV, sB, sC, PD.s2, toT, sTr, truth, bne_dec, sChain, sAnd, sOr, sNot, sIf, tAnd', tOr', tNot', sNil, sCons, sCall, allD, sN, allR, PD.res, sTup, sLst, sFr, gN, gT, gsNil, gsCons, sIsi, tyName, isSub, sOrE, sM1, sM1T, fAdd_int, fSub, fLe, fLt, fGt, fGe, eq_int, ne_int, cont?, setCont, List.replicate, fLen, sOwn, sApp, sSq, eo]) rfl (by rw [hl]; omega) rfl fun o ho => ⟨_, rfl, rfl, ?_⟩
    simp [bodyP, bodyI, startE, startI, sSeq, sRet, sAsg, sExp, sIfS, sNx, sV, sB, sC, PD.s2, toT, sTr, truth, bne_dec, sChain, sAnd, sOr, sNot, sIf, tAnd', tOr', tNot', sNil, sCons, sCall, allD, sN, allR, PD.res, sTup, sLst, sFr, gN, gT, gsNil, gsCons, sIsi, tyName, isSub, sOrE, sM1, sM1T, fAdd_int, fSub, fLe, fLt, fGt, fGe, eq_int, ne_int, cont?, setCont, List.replicate, fLen, sOwn, sApp, wipeE]
  have e : tN ((ords a n cells).map List.length) = .tuple ((ords a n cells).map (fun o => iN o.length)) := by
    show PyData.tuple _ = _
    rw [List.map_map]
    rfl
  rw [e]
  obtain ⟨Z, hZ⟩ : ∃ Z, Z = (ords a n cells).map (fun o => iN o.length) := ⟨_, rfl⟩
  rw [← hZ] at c1 ⊢
  unfold p_lands_on g_lands_on
  simp [bodyP, bodyI, startE, startI, sSeq, sRet, sAsg, sExp, sIfS, sNx, sV, sB, sC, PD.s2, toT, sTr, truth, bne_dec, sChain, sAnd, sOr, sNot, sIf, tAnd', tOr', tNot', sNil, sCons, sCall, allD, sN, allR, PD.res, sTup, sLst, sFr, gN, gT, gsNil, gsCons, sIsi, tyName, isSub, sOrE, sM1, sM1T, fAdd_int, fSub, fLe, fLt, fGt, fGe, eq_int, ne_int, cont?, setCont, List.replicate, fLen, sOwn, sApp, c1, fTupOf]
/-- the number of bare arms -/
def bare (a n : Nat) (cells : List Nat) : Nat := ((ords a n cells).map List.length).count 0
theorem bare_arms (V : Valid a n m cells) : p_bare_arms [ch a cells] = some (iN (bare a n cells)) := by
  have e1 := lands_on V
  have e2 : fCountT (tN ((ords a n cells).map List.length)) (.int 0) = some (iN (bare a n cells)) := fCountT_nat _ 0
  obtain ⟨C, hC⟩ : ∃ Z, Z = ((ords a n cells).map List.length).map iN := ⟨_, rfl⟩
  change p_lands_on [ch a cells] = some (.tuple (((ords a n cells).map List.length).map iN)) at e1
  change fCountT (.tuple (((ords a n cells).map List.length).map iN)) (.int 0) = _ at e2
  rw [← hC] at e1 e2
  unfold p_bare_arms g_bare_arms
  simp [bodyP, bodyI, startE, startI, sSeq, sRet, sAsg, sExp, sIfS, sNx, sV, sB, sC, PD.s2, toT, sTr, truth, bne_dec, sChain, sAnd, sOr, sNot, sIf, tAnd', tOr', tNot', sNil, sCons, sCall, allD, sN, allR, PD.res, sTup, sLst, sFr, gN, gT, gsNil, gsCons, sIsi, tyName, isSub, sOrE, sM1, sM1T, fAdd_int, fSub, fLe, fLt, fGt, fGe, eq_int, ne_int, cont?, setCont, List.replicate, fLen, sOwn, sApp, e1, e2]
/-- the outermost cells' lands -/
def tips (a n : Nat) (cells : List Nat) : List Nat := (List.range a).map fun k => ca cells (1 + k * n + (n - 1))
end
end S89

namespace S89
open PySem PD
theorem alike_pair (s t : Nat × Nat) : W.alike (tkD s) (tkD t) = true := by
  simp [W.alike, W.alikeAll]
theorem depth_pair (t : Nat × Nat) : (tkD t).depth ≤ 32 := by
  have := PySem.W.Datum.depth_le (α := Nat × Nat) t
  exact Nat.le_trans this (by decide)
theorem sortOk_pairs (T : List (Nat × Nat)) : sortOk (T.map tkD) = true := by
  unfold sortOk
  simp only [Bool.and_eq_true, Bool.or_eq_true, List.all_eq_true, decide_eq_true_eq]
  refine ⟨⟨fun d hd e he => ?_, .inl fun d hd => ?_⟩, fun d hd => ?_⟩
  · obtain ⟨s, _, rfl⟩ := List.mem_map.mp hd
    obtain ⟨t, _, rfl⟩ := List.mem_map.mp he
    exact alike_pair s t
  · obtain ⟨s, _, rfl⟩ := List.mem_map.mp hd
    rfl
  · obtain ⟨s, _, rfl⟩ := List.mem_map.mp hd
    exact depth_pair s
theorem tkD_inj {s t : Nat × Nat} (h : tkD s = tkD t) : s = t := by
  simp at h
  exact Prod.ext (by omega) (by omega)
/-- a permutation of such data is such data -/
theorem perm_map {α : Type} {f : α → PyData} : ∀ {xs : List PyData} {T : List α}, xs.Perm (T.map f) → ∃ T' : List α, xs = T'.map f ∧ T'.Perm T := by
  intro xs T h
  generalize hy : T.map f = ys at h
  induction h generalizing T with
  | nil => exact ⟨[], rfl, by cases T with
    | nil => exact .nil
    | cons _ _ => cases hy⟩
  | cons x p ih =>
    cases T with
    | nil => cases hy
    | cons t T =>
      rw [List.map_cons, List.cons.injEq] at hy
      obtain ⟨T', e, q⟩ := ih hy.2
      exact ⟨t :: T', by rw [List.map_cons, hy.1, e], .cons t q⟩
  | swap x y l =>
    match T, hy with
    | [], hy => cases hy
    | [_], hy => simp at hy
    | s :: t :: T, hy =>
      simp only [List.map_cons, List.cons.injEq] at hy
      obtain ⟨h1, h2, h3⟩ := hy
      exact ⟨t :: s :: T, by simp [h1, h2, h3], .swap s t T⟩
  | trans p q ih1 ih2 =>
    obtain ⟨T1, e1, q1⟩ := ih2 hy
    obtain ⟨T2, e2, q2⟩ := ih1 e1.symm
    exact ⟨T2, e2, q2.trans q1⟩
theorem sorted_pairs (T : List (Nat × Nat)) : ∃ T' : List (Nat × Nat), fSorted [.list (T.map tkD)] = some (T'.map tkD) ∧ T'.Perm T := by
  have perm : (sortD (T.map tkD)).Perm (T.map tkD) := List.mergeSort_perm _ _
  obtain ⟨T', e, p⟩ := perm_map perm
  refine ⟨T', ?_, p⟩
  show (if sortOk (T.map tkD) then some (sortD (T.map tkD)) else none) = _
  rw [if_pos (sortOk_pairs T), e]
section
variable {a n m : Nat} {cells : List Nat}
/-- the borders of a map, by their outer cells -/
def brd (n : Nat) (cells : List Nat) : List (Nat × Nat) := (crs n cells).map fun i => (inner n (i + 1), i + 1)
end
end S89

namespace S89
open PySem PD PySem.W
/-- a map as data of Lean's types -/
theorem ch_toD (a : Nat) (c : List Nat) : ch a c = Datum.toD (((a, ⟨c⟩) : Nat × Tup Nat)) := rfl
theorem eq_ch (a : Nat) (c d : List Nat) : fEq (ch a c) (ch a d) = some (.bool (decide (c = d))) := by
  have := eq_toD (α := Nat × Tup Nat) (a, ⟨c⟩) (a, ⟨d⟩)
  rw [ch_toD, ch_toD, this]
  congr 2
  simp
theorem ne_ch2 (a : Nat) (c d : List Nat) : fNe (ch a c) (ch a d) = some (.bool (!decide (c = d))) := by
  have := ne_toD (α := Nat × Tup Nat) (a, ⟨c⟩) (a, ⟨d⟩)
  rw [ch_toD, ch_toD, this]
  congr 3
  simp
theorem eq_tN (c d : List Nat) : fEq (tN c) (tN d) = some (.bool (decide (c = d))) := by
  have := eq_toD (α := Tup Nat) ⟨c⟩ ⟨d⟩
  have e : ∀ c : List Nat, tN c = Datum.toD (⟨c⟩ : Tup Nat) := fun _ => rfl
  rw [e c, e d, this]
  congr 2
  simp
theorem ne_tN (c d : List Nat) : fNe (tN c) (tN d) = some (.bool (!decide (c = d))) := by
  have := ne_toD (α := Tup Nat) ⟨c⟩ ⟨d⟩
  have e : ∀ c : List Nat, tN c = Datum.toD (⟨c⟩ : Tup Nat) := fun _ => rfl
  rw [e c, e d, this]
  congr 3
  simp
theorem ords_toD (o : List (List Nat)) : PyData.tuple (o.map tN) = Datum.toD (⟨o.map fun x => (⟨x⟩ : Tup Nat)⟩ : Tup (Tup Nat)) := by
  show PyData.tuple _ = PyData.tuple _
  rw [List.map_map]
  rfl
theorem eq_ords (o p : List (List Nat)) (h : o = p) : fEq (.tuple (o.map tN)) (.tuple (p.map tN)) = some (.bool true) := by
  subst h
  have := eq_toD (α := Tup (Tup Nat)) ⟨o.map fun x => (⟨x⟩ : Tup Nat)⟩ ⟨o.map fun x => (⟨x⟩ : Tup Nat)⟩
  rw [ords_toD, this]
  simp
theorem ne_none : fNe .none .none = some (.bool false) := rfl
theorem eq_none : fEq .none .none = some (.bool true) := rfl
section
variable {a n m : Nat} {c0 c1 : List Nat}
end
end S89

namespace S89
open PySem PD PySem.W
/-! ### rows of lands from orders and places -/
/-- the land behind i places -/
def curL (h : Nat) (ord spots : List Nat) : Nat → Nat
  | 0 => h
  | i + 1 => if i ∈ spots then ord.getD (spots.idxOf i) 0 else curL h ord spots i
def placedN (n h : Nat) (ord spots : List Nat) : List Nat := (List.range n).map fun i => curL h ord spots (i + 1)
theorem placedN_len (n h : Nat) (ord spots : List Nat) : (placedN n h ord spots).length = n := by unfold placedN; simp
theorem idx_nat (ns : List Nat) (k : Nat) : (ns.map fun (n : Nat) => (n : Int)).idxOf (k : Int) = ns.idxOf k := by
  induction ns with
  | nil => rfl
  | cons x r ih =>
    rw [List.map_cons, List.idxOf_cons, List.idxOf_cons, ih]
    by_cases h : x = k
    · subst h
      simp
    · have : ¬ (x : Int) = (k : Int) := by omega
      have e1 : ((x : Int) == (k : Int)) = false := by simpa using this
      have e2 : (x == k) = false := by simpa using h
      rw [e1, e2]
theorem mem_nat {ns : List Nat} {k : Nat} : (k : Int) ∈ (ns.map fun (n : Nat) => (n : Int)) ↔ k ∈ ns := by
  rw [List.mem_map]
  constructor
  · rintro ⟨x, hx, e⟩
    have : x = k := by omega
    rw [← this]; exact hx
  · intro h
    exact ⟨k, h, rfl⟩
theorem fIdxT_nat {ns : List Nat} {k : Nat} (h : k ∈ ns) : fIdxT (tN ns) (iN k) = some (iN (ns.idxOf k)) := by
  show (match intsOf (ns.map iN) with | some ns => if (k : Int) ∈ ns then some (PyData.int (ns.idxOf (k : Int) : Nat)) else none | none => none) = _
  rw [intsOf_nat]
  show (if (k : Int) ∈ (ns.map fun (n : Nat) => (n : Int)) then some (PyData.int ((ns.map fun (n : Nat) => (n : Int)).idxOf (k : Int) : Nat)) else none) = _
  rw [if_pos (mem_nat.mpr h), idx_nat]
theorem in_tN (x : Nat) (xs : List Nat) : fIn (iN x) (tN xs) = some (.bool (decide (x ∈ xs))) := by
  show (if flatD (iN x) && (xs.map iN).all flatD then some (PyData.bool ((xs.map Datum.toD).any fun z => PyData.eqv z (Datum.toD x))) else none) = _
  rw [flat_map, any_datum]
  rfl
theorem placed_row {n h : Nat} {ord spots : List Nat} (hn : n < 1000) (hl : spots.length = ord.length) : p_placed_row [iN n, iN h, tN ord, tN spots] = some (tN (placedN n h ord spots)) := by
  obtain ⟨O, hO⟩ : ∃ Z, Z = tN ord := ⟨_, rfl⟩
  obtain ⟨S, hS⟩ : ∃ Z, Z = tN spots := ⟨_, rfl⟩
  let st : Nat → Sl → Ev := fun i x => [.dat (iN n), .dat (iN h), .dat O, .dat S, .own ((placedN i h ord spots).map iN), .dat (iN (curL h ord spots i)), x]
  have loop : ∃ ρ', l1_placed_row (st 0 .un) = some (.nx, ρ') ∧ ∃ x, ρ' = st n x := by
    have := sFor_inv (g := gN 6) (b := b1_placed_row) (fi := sRg1 (sCons (sV 0) sNil)) (items := (List.range n).map iN) (ρ := st 0 .un) (ρ1 := st 0 .un) (fun i ρ => ∃ x, ρ = st i x) (sRg1_small (n := n) (ρ1 := st 0 .un) rfl (by omega)) ⟨_, rfl⟩ ?_
    · rw [List.length_map, List.length_range] at this
      exact this
    rintro i d ρ hd ⟨x, rfl⟩
    rw [List.getElem?_map, Option.map_eq_some_iff] at hd
    obtain ⟨j, h1, rfl⟩ := hd
    have hi : i < n := by
      have := (List.getElem?_eq_some_iff.mp h1).1
      rw [List.length_range] at this
      exact this
    have hj : j = i := by
      rw [List.getElem?_range hi] at h1
      exact (Option.some.inj h1).symm
    subst hj
    have e1 : (placedN (j + 1) h ord spots).map iN = (placedN j h ord spots).map iN ++ [iN (curL h ord spots (j + 1))] := by
      unfold placedN
      rw [List.range_succ]
      simp
    have hlen : ((placedN j h ord spots).map iN).length < 1000000 := by rw [List.length_map, placedN_len]; omega
    refine ⟨[.dat (iN n), .dat (iN h), .dat O, .dat S, .own ((placedN j h ord spots).map iN), .dat (iN (curL h ord spots j)), .dat (iN j)], .nx, st (j + 1) (.dat (iN j)), rfl, ?_, .inl rfl, _, rfl⟩
    show b1_placed_row _ = some (.nx, [.dat (iN n), .dat (iN h), .dat O, .dat S, .own ((placedN (j + 1) h ord spots).map iN), .dat (iN (curL h ord spots (j + 1))), .dat (iN j)])
    rw [e1]
    obtain ⟨U, hU⟩ : ∃ Z, Z = (placedN j h ord spots).map iN := ⟨_, rfl⟩
    rw [← hU] at hlen ⊢
    have q1 : fIn (iN j) S = some (.bool (decide (j ∈ spots))) := by rw [hS]; exact in_tN j spots
    unfold b1_placed_row
    by_cases hm : j ∈ spots
    · have q2 : fIdxT S (iN j) = some (iN (spots.idxOf j)) := by rw [hS]; exact fIdxT_nat hm
      have lt : spots.idxOf j < ord.length := by rw [← hl]; exact List.idxOf_lt_length_of_mem hm
      have q3 : fIx O (iN (spots.idxOf j)) = some (iN (curL h ord spots (j + 1))) := by
        rw [hO]
        refine (ix_map (f := iN) (j := spots.idxOf j) ?_).2
        rw [curL, if_pos hm, List.getD_eq_getElem?_getD, List.getElem?_eq_getElem lt]
        rfl
      obtain ⟨b, hb⟩ : ∃ z, z = decide (j ∈ spots) := ⟨_, rfl⟩
      have hS' : ∃ ss, S = .tuple ss := ⟨_, hS⟩
      obtain ⟨ss, hss⟩ := hS'
      rw [decide_eq_true hm] at q1
      rw [hss] at q1 q2 ⊢
      generalize curL h ord spots j = w
      generalize curL h ord spots (j + 1) = w' at q3 ⊢
      simp [bodyP, bodyI, startE, startI, sSeq, sRet, sAsg, sExp, sIfS, sNx, sV, sB, sC, PD.s2, toT, sTr, truth, bne_dec, sChain, sAnd, sOr, sNot, sIf, tAnd', tOr', tNot', sNil, sCons, sCall, allD, sN, allR, PD.res, sTup, sLst, sFr, gN, gT, gsNil, gsCons, sIsi, tyName, isSub, sOrE, sM1, sM1T, fAdd_int, fSub, fLe, fLt, fGt, fGe, eq_int, ne_int, cont?, setCont, List.replicate, fLen, sOwn, sApp, q1, q2, q3, hlen]
    · have e2 : curL h ord spots (j + 1) = curL h ord spots j := by rw [curL, if_neg hm]
      rw [e2]
      rw [decide_eq_false hm] at q1
      generalize curL h ord spots j = w
      simp [bodyP, bodyI, startE, startI, sSeq, sRet, sAsg, sExp, sIfS, sNx, sV, sB, sC, PD.s2, toT, sTr, truth, bne_dec, sChain, sAnd, sOr, sNot, sIf, tAnd', tOr', tNot', sNil, sCons, sCall, allD, sN, allR, PD.res, sTup, sLst, sFr, gN, gT, gsNil, gsCons, sIsi, tyName, isSub, sOrE, sM1, sM1T, fAdd_int, fSub, fLe, fLt, fGt, fGe, eq_int, ne_int, cont?, setCont, List.replicate, fLen, sOwn, sApp, q1, hlen]
  obtain ⟨ρ', e, x, rfl⟩ := loop
  have e' : l1_placed_row [.dat (iN n), .dat (iN h), .dat O, .dat S, .own [], .dat (iN h), .un] = some (.nx, [.dat (iN n), .dat (iN h), .dat O, .dat S, .own ((placedN n h ord spots).map iN), .dat (iN (curL h ord spots n)), x]) := e
  show p_placed_row [iN n, iN h, _, _] = some (.tuple ((placedN n h ord spots).map iN))
  rw [← hO, ← hS]
  obtain ⟨U, hU⟩ : ∃ Z, Z = (placedN n h ord spots).map iN := ⟨_, rfl⟩
  rw [← hU] at e' ⊢
  unfold p_placed_row g_placed_row
  simp [bodyP, bodyI, startE, startI, sSeq, sRet, sAsg, sExp, sIfS, sNx, sV, sB, sC, PD.s2, toT, sTr, truth, bne_dec, sChain, sAnd, sOr, sNot, sIf, tAnd', tOr', tNot', sNil, sCons, sCall, allD, sN, allR, PD.res, sTup, sLst, sFr, gN, gT, gsNil, gsCons, sIsi, tyName, isSub, sOrE, sM1, sM1T, fAdd_int, fSub, fLe, fLt, fGt, fGe, eq_int, ne_int, cont?, setCont, List.replicate, fLen, sOwn, sApp, sLst, e', fTupOf]
end S89

namespace S89
open PySem PD PySem.W
theorem joined_mapL {h : Nat} {rows : List (List Nat)} (hr : rows.length ≤ 10) (hl : ∀ r ∈ rows, r.length ≤ 100) : p_joined_map [iN h, .list (rows.map tN)] = some (ch rows.length (h :: rows.flatten)) := by
  have fl : ∀ i, (rows.take i).flatten.length ≤ i * 100 := fun i => by
    induction i with
    | zero => simp
    | succ i ih =>
      rw [List.take_add_one, List.flatten_append, List.length_append]
      cases e : rows[i]? with
      | none =>
        show _ + 0 ≤ _
        omega
      | some r =>
        have := hl r (List.mem_of_getElem? e)
        have e2 : (Option.some r).toList.flatten.length = r.length := by simp
        rw [e2]
        omega
  obtain ⟨R, hR⟩ : ∃ z, z = rows.map tN := ⟨_, rfl⟩
  have hRl : R.length = rows.length := by rw [hR, List.length_map]
  let st : Nat → Sl → Ev := fun i x => [.dat (iN h), .dat (.list R), .own ((h :: (rows.take i).flatten).map iN), x]
  have loop : ∃ ρ', l1_joined_map (st 0 .un) = some (.nx, ρ') ∧ ∃ x, ρ' = st R.length x := by
    refine sFor_inv (items := R) (ρ1 := st 0 .un) (fun i ρ => ∃ x, ρ = st i x) rfl ⟨_, rfl⟩ ?_
    rintro i d ρ hd ⟨x, rfl⟩
    rw [hR, List.getElem?_map, Option.map_eq_some_iff] at hd
    obtain ⟨r, h1, rfl⟩ := hd
    have hi := (List.getElem?_eq_some_iff.mp h1).1
    have rl := hl r (List.mem_of_getElem? h1)
    have e : ((h :: (rows.take (i + 1)).flatten).map iN) = ((h :: (rows.take i).flatten).map iN) ++ r.map iN := by
      rw [List.take_add_one, h1]
      simp
    have f1 := fl i
    obtain ⟨O, hO⟩ : ∃ z, z = (h :: (rows.take i).flatten).map iN := ⟨_, rfl⟩
    have ol : O.length ≤ 10000 := by
      rw [hO, List.length_map, List.length_cons]
      omega
    obtain ⟨Y, hY⟩ : ∃ z, z = r.map iN := ⟨_, rfl⟩
    have yl : Y.length ≤ 100 := by rw [hY, List.length_map]; exact rl
    refine ⟨[.dat (iN h), .dat (.list R), .own O, .dat (.tuple Y)], .nx, st (i + 1) (.dat (tN r)), by rw [hO, hY]; rfl, ?_, .inl rfl, _, rfl⟩
    show b1_joined_map _ = some (.nx, [.dat (iN h), .dat (.list R), .own ((h :: (rows.take (i + 1)).flatten).map iN), .dat (.tuple (r.map iN))])
    rw [e, ← hO, ← hY]
    have ok : O.length + Y.length ≤ 1000000 := by omega
    unfold b1_joined_map
    simp [bodyP, bodyI, startE, startI, sSeq, sRet, sAsg, sExp, sIfS, sNx, sV, sB, sC, PD.s2, toT, sTr, truth, bne_dec, sChain, sAnd, sOr, sNot, sIf, tAnd', tOr', tNot', sNil, sCons, sCall, allD, sN, allR, PD.res, sTup, sLst, sFr, gN, gT, gsNil, gsCons, sIsi, tyName, isSub, sOrE, sM1, sM1T, fAdd_int, fSub, fLe, fLt, fGt, fGe, eq_int, ne_int, cont?, setCont, List.replicate, fLen, sOwn, sApp, sExtT, ok]
  obtain ⟨ρ', e, x, rfl⟩ := loop
  have et : rows.take R.length = rows := by rw [hRl, List.take_length]
  have e' : l1_joined_map [.dat (iN h), .dat (.list R), .own [iN h], .un] = some (.nx, [.dat (iN h), .dat (.list R), .own ((h :: rows.flatten).map iN), x]) := by
    have q : st R.length x = [.dat (iN h), .dat (.list R), .own ((h :: rows.flatten).map iN), x] := by
      show [Sl.dat (iN h), .dat (.list R), .own ((h :: (rows.take R.length).flatten).map iN), x] = _
      rw [et]
    rw [← q]
    exact e
  rw [← hR]
  show p_joined_map [iN h, .list R] = some (.tuple [iN rows.length, .tuple ((h :: rows.flatten).map iN)])
  obtain ⟨O, hO⟩ : ∃ z, z = (h :: rows.flatten).map iN := ⟨_, rfl⟩
  rw [← hO] at e' ⊢
  unfold p_joined_map g_joined_map
  simp [bodyP, bodyI, startE, startI, sSeq, sRet, sAsg, sExp, sIfS, sNx, sV, sB, sC, PD.s2, toT, sTr, truth, bne_dec, sChain, sAnd, sOr, sNot, sIf, tAnd', tOr', tNot', sNil, sCons, sCall, allD, sN, allR, PD.res, sTup, sLst, sFr, gN, gT, gsNil, gsCons, sIsi, tyName, isSub, sOrE, sM1, sM1T, fAdd_int, fSub, fLe, fLt, fGt, fGe, eq_int, ne_int, cont?, setCont, List.replicate, fLen, sOwn, sApp, sLst, e', fTupOf, hRl]

theorem zipD_map {xs ys : List (List Nat)} : zipD (xs.map tN) (ys.map tN) = (xs.zip ys).map fun p => .tuple [tN p.1, tN p.2] := by
  unfold zipD
  induction xs generalizing ys with
  | nil => rfl
  | cons x r ih =>
    cases ys with
    | nil => rfl
    | cons y s => rw [List.map_cons, List.map_cons, List.zipWith_cons_cons, List.zip_cons_cons, List.map_cons, ih]
/-- orders, and places for them -/
structure Ord (a n : Nat) (os ps : List (List Nat)) : Prop where
  ha : 3 ≤ a ∧ a ≤ 4
  hn : 1 ≤ n ∧ n ≤ 4
  lo : os.length = a
  lp : ps.length = a
  land : ∀ o ∈ os, ∀ v ∈ o, v ≤ 4
  short : ∀ o ∈ os, o.length ≤ 50
  up : ∀ p ∈ ps, p.Pairwise (· < ·)
  lt : ∀ p ∈ ps, ∀ v ∈ p, v < n
  eq : ∀ q ∈ os.zip ps, q.1.length = q.2.length
theorem ar34 {a : Nat} (h : 3 ≤ a ∧ a ≤ 4) : fNotIn (iN a) (.tuple [.int 3, .int 4]) = some (.bool false) := by
  rcases (show a = 3 ∨ a = 4 by omega) with rfl | rfl <;> rfl
section
variable {a n : Nat} {os ps : List (List Nat)}
theorem are_orders (R : Ord a n os ps) : p_are_orders [.tuple (os.map tN)] = some (.bool true) := by
  obtain ⟨T, hT⟩ : ∃ z, z = os.map tN := ⟨_, rfl⟩
  have hTl : T.length = a := by rw [hT, List.length_map, R.lo]
  have a1 : a1_are_orders [.dat (.tuple T), .un] = some (.d (.bool true), [.dat (.tuple T), .un]) := by
    have e : os.all (fun _ => true) = true := by simp
    rw [← e]
    refine sAll_on os tN _ (by rw [hT]; simp [bodyP, bodyI, startE, startI, sSeq, sRet, sAsg, sExp, sIfS, sNx, sV, sB, sC, PD.s2, toT, sTr, truth, bne_dec, sChain, sAnd, sOr, sNot, sIf, tAnd', tOr', tNot', sNil, sCons, sCall, allD, sN, allR, PD.res, sTup, sLst, sFr, gN, gT, gsNil, gsCons, sIsi, tyName, isSub, sOrE, sM1, sM1T, fAdd_int, fSub, fLe, fLt, fGt, fGe, eq_int, ne_int, cont?, setCont, List.replicate, fLen, sOwn, sApp, sSq]) rfl rfl fun r hr => ⟨_, rfl, rfl, ?_⟩
    have q := are_integers_nat (xs := r) (b := 4) (R.land r hr) (by have := R.short r hr; omega)
    obtain ⟨D, hD⟩ : ∃ z, z = tN r := ⟨_, rfl⟩
    rw [← hD] at q ⊢
    change p_are_integers [D, .int 0, .int 4] = _ at q
    simp [bodyP, bodyI, startE, startI, sSeq, sRet, sAsg, sExp, sIfS, sNx, sV, sB, sC, PD.s2, toT, sTr, truth, bne_dec, sChain, sAnd, sOr, sNot, sIf, tAnd', tOr', tNot', sNil, sCons, sCall, allD, sN, allR, PD.res, sTup, sLst, sFr, gN, gT, gsNil, gsCons, sIsi, tyName, isSub, sOrE, sM1, sM1T, fAdd_int, fSub, fLe, fLt, fGt, fGe, eq_int, ne_int, cont?, setCont, List.replicate, fLen, sOwn, sApp, wipeE, q]
  have ni := ar34 R.ha
  rw [← hT]
  unfold p_are_orders g_are_orders
  simp [bodyP, bodyI, startE, startI, sSeq, sRet, sAsg, sExp, sIfS, sNx, sV, sB, sC, PD.s2, toT, sTr, truth, bne_dec, sChain, sAnd, sOr, sNot, sIf, tAnd', tOr', tNot', sNil, sCons, sCall, allD, sN, allR, PD.res, sTup, sLst, sFr, gN, gT, gsNil, gsCons, sIsi, tyName, isSub, sOrE, sM1, sM1T, fAdd_int, fSub, fLe, fLt, fGt, fGe, eq_int, ne_int, cont?, setCont, List.replicate, fLen, sOwn, sApp, hTl, ni, a1]
theorem up_len : ∀ {p : List Nat} {n : Nat}, p.Pairwise (· < ·) → (∀ v ∈ p, v < n) → p.length ≤ n := by
  intro p n h1 h2
  have nd : p.Nodup := h1.imp (fun h => Nat.ne_of_lt h)
  have := L2.nat_nodup_len p (List.range n) nd fun v hv => List.mem_range.mpr (h2 v hv)
  rw [List.length_range] at this
  exact this
theorem srt_up {p : List Nat} (h : p.Pairwise (· < ·)) : snub (p.map fun (n : Nat) => (n : Int)) = p.map fun (n : Nat) => (n : Int) := by
  refine up_one snub_up ?_ fun k => mem_snub
  rw [List.pairwise_map]
  exact h.imp fun h => by omega
theorem zip_mem {α β : Type} {xs : List α} {ys : List β} {p : α × β} (h : p ∈ xs.zip ys) : p.1 ∈ xs ∧ p.2 ∈ ys := ⟨(List.of_mem_zip h).1, (List.of_mem_zip h).2⟩
theorem are_places (R : Ord a n os ps) : p_are_places [.tuple (ps.map tN), iN n, .tuple (os.map tN)] = some (.bool true) := by
  obtain ⟨T, hT⟩ : ∃ z, z = ps.map tN := ⟨_, rfl⟩
  obtain ⟨O, hO⟩ : ∃ z, z = os.map tN := ⟨_, rfl⟩
  have hTl : T.length = a := by rw [hT, List.length_map, R.lp]
  have hOl : O.length = a := by rw [hO, List.length_map, R.lo]
  have hn := R.hn
  have a1 : a1_are_places [.dat (.tuple T), .dat (iN n), .dat (.tuple O), .un, .un] = some (.d (.bool true), [.dat (.tuple T), .dat (iN n), .dat (.tuple O), .un, .un]) := by
    have e : ps.all (fun _ => true) = true := by simp
    rw [← e]
    refine sAll_on ps tN _ (by rw [hT]; simp [bodyP, bodyI, startE, startI, sSeq, sRet, sAsg, sExp, sIfS, sNx, sV, sB, sC, PD.s2, toT, sTr, truth, bne_dec, sChain, sAnd, sOr, sNot, sIf, tAnd', tOr', tNot', sNil, sCons, sCall, allD, sN, allR, PD.res, sTup, sLst, sFr, gN, gT, gsNil, gsCons, sIsi, tyName, isSub, sOrE, sM1, sM1T, fAdd_int, fSub, fLe, fLt, fGt, fGe, eq_int, ne_int, cont?, setCont, List.replicate, fLen, sOwn, sApp, sSq]) rfl rfl fun r hr => ⟨_, rfl, rfl, ?_⟩
    have ln := up_len (R.up r hr) (R.lt r hr)
    have q := are_integers_nat (xs := r) (b := n - 1) (fun v hv => by have := R.lt r hr v hv; omega) (by omega)
    obtain ⟨D, hD⟩ : ∃ z, z = tN r := ⟨_, rfl⟩
    rw [← hD] at q ⊢
    have z : ((n - 1 : Nat) : Int) = (n : Int) - 1 := by omega
    change p_are_integers [D, .int 0, .int ((n - 1 : Nat) : Int)] = _ at q
    rw [z] at q
    simp [bodyP, bodyI, startE, startI, sSeq, sRet, sAsg, sExp, sIfS, sNx, sV, sB, sC, PD.s2, toT, sTr, truth, bne_dec, sChain, sAnd, sOr, sNot, sIf, tAnd', tOr', tNot', sNil, sCons, sCall, allD, sN, allR, PD.res, sTup, sLst, sFr, gN, gT, gsNil, gsCons, sIsi, tyName, isSub, sOrE, sM1, sM1T, fAdd_int, fSub, fLe, fLt, fGt, fGe, eq_int, ne_int, cont?, setCont, List.replicate, fLen, sOwn, sApp, wipeE, q]
  have a2 : a2_are_places [.dat (.tuple T), .dat (iN n), .dat (.tuple O), .un, .un] = some (.d (.bool true), [.dat (.tuple T), .dat (iN n), .dat (.tuple O), .un, .un]) := by
    have e : ps.all (fun _ => true) = true := by simp
    rw [← e]
    refine sAll_on ps tN _ (by rw [hT]; simp [bodyP, bodyI, startE, startI, sSeq, sRet, sAsg, sExp, sIfS, sNx, sV, sB, sC, PD.s2, toT, sTr, truth, bne_dec, sChain, sAnd, sOr, sNot, sIf, tAnd', tOr', tNot', sNil, sCons, sCall, allD, sN, allR, PD.res, sTup, sLst, sFr, gN, gT, gsNil, gsCons, sIsi, tyName, isSub, sOrE, sM1, sM1T, fAdd_int, fSub, fLe, fLt, fGt, fGe, eq_int, ne_int, cont?, setCont, List.replicate, fLen, sOwn, sApp, sSq]) rfl rfl fun r hr => ⟨_, rfl, rfl, ?_⟩
    have ln := up_len (R.up r hr) (R.lt r hr)
    have q1 : sOrI (sSrtSet (sV 3)) (sSrtSetP (sV 3)) [.dat (.tuple T), .dat (iN n), .dat (.tuple O), .dat (tN r), .un] = some (r.map iN, [.dat (.tuple T), .dat (iN n), .dat (.tuple O), .dat (tN r), .un]) := by
      have : sSrtSet (sV 3) [.dat (.tuple T), .dat (iN n), .dat (.tuple O), .dat (tN r), .un] = some (r.map iN, [.dat (.tuple T), .dat (iN n), .dat (.tuple O), .dat (tN r), .un]) := by
        show (match intsOf (r.map iN) with | some ns => if ns.length < 60 then some ((snub ns).map PyData.int, ([.dat (.tuple T), .dat (iN n), .dat (.tuple O), .dat (tN r), .un] : Ev)) else none | none => none) = _
        rw [intsOf_nat]
        dsimp only
        rw [if_pos (by rw [List.length_map]; omega), srt_up (R.up r hr), List.map_map]
        rfl
      unfold sOrI
      rw [this]
    have q3 : fEq (tN r) (tN r) = some (.bool true) := by rw [eq_tN]; simp
    obtain ⟨D, hD⟩ : ∃ z, z = r.map iN := ⟨_, rfl⟩
    have tD : tN r = .tuple D := by rw [hD]
    rw [tD] at q1 q3 ⊢
    rw [← hD] at q1
    simp [bodyP, bodyI, startE, startI, sSeq, sRet, sAsg, sExp, sIfS, sNx, sV, sB, sC, PD.s2, toT, sTr, truth, bne_dec, sChain, sAnd, sOr, sNot, sIf, tAnd', tOr', tNot', sNil, sCons, sCall, allD, sN, allR, PD.res, sTup, sLst, sFr, gN, gT, gsNil, gsCons, sIsi, tyName, isSub, sOrE, sM1, sM1T, fAdd_int, fSub, fLe, fLt, fGt, fGe, eq_int, ne_int, cont?, setCont, List.replicate, fLen, sOwn, sApp, wipeE, q1, fTupOf, q3]
  have c1 : c1_are_places [.dat (.tuple T), .dat (iN n), .dat (.tuple O), .un, .un] = some ((os.zip ps).map (fun _ => PyData.bool true), [.dat (.tuple T), .dat (iN n), .dat (.tuple O), .un, .un]) := by
    have it : sZip (sCons (sV 2) (sCons (sV 0) sNil)) [.dat (.tuple T), .dat (iN n), .dat (.tuple O), .un, .un] = some ((os.zip ps).map fun p => .tuple [tN p.1, tN p.2], [.dat (.tuple T), .dat (iN n), .dat (.tuple O), .un, .un]) := by
      rw [← zipD_map, ← hT, ← hO]
      rfl
    refine sComp_all (os.zip ps) (fun p => .tuple [tN p.1, tN p.2]) _ it rfl (by have := R.ha; rw [List.length_zip, R.lo, R.lp, Nat.min_self]; omega) rfl fun q hq => ⟨_, rfl, rfl, ?_⟩
    have e := (R.eq q hq).symm
    simp [bodyP, bodyI, startE, startI, sSeq, sRet, sAsg, sExp, sIfS, sNx, sV, sB, sC, PD.s2, toT, sTr, truth, bne_dec, sChain, sAnd, sOr, sNot, sIf, tAnd', tOr', tNot', sNil, sCons, sCall, allD, sN, allR, PD.res, sTup, sLst, sFr, gN, gT, gsNil, gsCons, sIsi, tyName, isSub, sOrE, sM1, sM1T, fAdd_int, fSub, fLe, fLt, fGt, fGe, eq_int, ne_int, cont?, setCont, List.replicate, fLen, sOwn, sApp, wipeE, e]
  have al : fAllL [.list ((os.zip ps).map (fun _ => PyData.bool true))] = some (.bool true) := by
    have e : (os.zip ps).map (fun _ => PyData.bool true) = (List.replicate (os.zip ps).length true).map PyData.bool := by
      rw [List.map_const', List.map_replicate]
    rw [e]
    show (boolsOf ((List.replicate (os.zip ps).length true).map PyData.bool)).map (fun bs => PyData.bool (bs.all id)) = _
    rw [boolsOf_map]
    simp
  obtain ⟨Z, hZ⟩ : ∃ z, z = (os.zip ps).map (fun _ => PyData.bool true) := ⟨_, rfl⟩
  rw [← hZ] at c1 al
  rw [← hT, ← hO]
  unfold p_are_places g_are_places
  simp [bodyP, bodyI, startE, startI, sSeq, sRet, sAsg, sExp, sIfS, sNx, sV, sB, sC, PD.s2, toT, sTr, truth, bne_dec, sChain, sAnd, sOr, sNot, sIf, tAnd', tOr', tNot', sNil, sCons, sCall, allD, sN, allR, PD.res, sTup, sLst, sFr, gN, gT, gsNil, gsCons, sIsi, tyName, isSub, sOrE, sM1, sM1T, fAdd_int, fSub, fLe, fLt, fGt, fGe, eq_int, ne_int, cont?, setCont, List.replicate, fLen, sOwn, sApp, hTl, hOl, a1, a2, c1, al, ne_nat]
end
end S89

namespace S89
open PySem PD PySem.W
section
variable {a n h : Nat} {os ps : List (List Nat)}
def rowsN (n h : Nat) (os ps : List (List Nat)) : List (List Nat) := (os.zip ps).map fun q => placedN n h q.1 q.2
theorem rowsN_len (R : Ord a n os ps) : (rowsN n h os ps).length = a := by
  unfold rowsN
  rw [List.length_map, List.length_zip, R.lo, R.lp, Nat.min_self]
theorem rowsN_mem {r : List Nat} (hr : r ∈ rowsN n h os ps) : r.length = n := by
  unfold rowsN at hr
  obtain ⟨q, _, rfl⟩ := List.mem_map.mp hr
  exact placedN_len _ _ _ _
theorem check_length {n : Nat} (hn : 1 ≤ n ∧ n ≤ 4) : p_check_length [iN n, .int 4] = some .none := by
  have q : p_is_integer [iN n, .int 1, .int 4] = some (.bool true) := by
    rw [integer_int]
    have : (1 : Int) ≤ (n : Int) ∧ (n : Int) ≤ 4 := by omega
    rw [decide_eq_true this]
  unfold p_check_length g_check_length
  simp [bodyP, bodyI, startE, startI, sSeq, sRet, sAsg, sExp, sIfS, sNx, sV, sB, sC, PD.s2, toT, sTr, truth, bne_dec, sChain, sAnd, sOr, sNot, sIf, tAnd', tOr', tNot', sNil, sCons, sCall, allD, sN, allR, PD.res, sTup, sLst, sFr, gN, gT, gsNil, gsCons, sIsi, tyName, isSub, sOrE, sM1, sM1T, fAdd_int, fSub, fLe, fLt, fGt, fGe, eq_int, ne_int, cont?, setCont, List.replicate, fLen, sOwn, sApp, q]
theorem check_hub {h : Nat} (hh : h ≤ 4) : p_check_hub [iN h] = some .none := by
  have q : p_is_integer [iN h, .int 0, .int 4] = some (.bool true) := by
    rw [integer_int]
    have : (0 : Int) ≤ (h : Int) ∧ (h : Int) ≤ 4 := by omega
    rw [decide_eq_true this]
  unfold p_check_hub g_check_hub
  simp [bodyP, bodyI, startE, startI, sSeq, sRet, sAsg, sExp, sIfS, sNx, sV, sB, sC, PD.s2, toT, sTr, truth, bne_dec, sChain, sAnd, sOr, sNot, sIf, tAnd', tOr', tNot', sNil, sCons, sCall, allD, sN, allR, PD.res, sTup, sLst, sFr, gN, gT, gsNil, gsCons, sIsi, tyName, isSub, sOrE, sM1, sM1T, fAdd_int, fSub, fLe, fLt, fGt, fGe, eq_int, ne_int, cont?, setCont, List.replicate, fLen, sOwn, sApp, q]
/-- the map of orders and places, where there is one -/
theorem from_orders (R : Ord a n os ps) (hh : h ≤ 4) {b : Bool} (hb : p_is_chart [ch a (h :: (rowsN n h os ps).flatten)] = some (.bool b)) :
    p_from_orders [iN n, iN h, .tuple (os.map tN), .tuple (ps.map tN)] = some (if b && (os.zip (rowsN n h os ps)).all (fun q => decide (met h q.2 = q.1)) then ch a (h :: (rowsN n h os ps).flatten) else .none) := by
  have q1 := are_orders R
  have q2 := are_places R
  have q3 := check_length R.hn
  have q4 := check_hub hh
  have ha := R.ha
  have hn := R.hn
  have len := rowsN_len (h := h) R
  have q5 := joined_mapL (h := h) (rows := rowsN n h os ps) (by rw [len]; omega) (fun r hr => by rw [rowsN_mem hr]; omega)
  rw [len] at q5
  obtain ⟨T, hT⟩ : ∃ z, z = ps.map tN := ⟨_, rfl⟩
  obtain ⟨O, hO⟩ : ∃ z, z = os.map tN := ⟨_, rfl⟩
  obtain ⟨W, hW⟩ : ∃ z, z = (rowsN n h os ps).map tN := ⟨_, rfl⟩
  obtain ⟨C, hC⟩ : ∃ z, z = ch a (h :: (rowsN n h os ps).flatten) := ⟨_, rfl⟩
  have c1 : c1_from_orders [.dat (iN n), .dat (iN h), .dat (.tuple O), .dat (.tuple T), .un, .un, .un, .un, .un, .un] = some (W, [.dat (iN n), .dat (iN h), .dat (.tuple O), .dat (.tuple T), .un, .un, .un, .un, .un, .un]) := by
    have e : W = (os.zip ps).map fun q => tN (placedN n h q.1 q.2) := by
      rw [hW]
      unfold rowsN
      rw [List.map_map]
      rfl
    rw [e]
    refine sComp_all (os.zip ps) (fun p => .tuple [tN p.1, tN p.2]) _ (by rw [← zipD_map, ← hT, ← hO]; rfl) rfl (by rw [List.length_zip, R.lo, R.lp, Nat.min_self]; omega) rfl fun q hq => ⟨_, rfl, rfl, ?_⟩
    have pr := placed_row (n := n) (h := h) (ord := q.1) (spots := q.2) (by omega) (R.eq q hq).symm
    obtain ⟨x, hx⟩ : ∃ z, z = tN q.1 := ⟨_, rfl⟩
    obtain ⟨y, hy⟩ : ∃ z, z = tN q.2 := ⟨_, rfl⟩
    obtain ⟨z, hz⟩ : ∃ z, z = tN (placedN n h q.1 q.2) := ⟨_, rfl⟩
    rw [← hx, ← hy, ← hz] at pr ⊢
    simp [bodyP, bodyI, startE, startI, sSeq, sRet, sAsg, sExp, sIfS, sNx, sV, sB, sC, PD.s2, toT, sTr, truth, bne_dec, sChain, sAnd, sOr, sNot, sIf, tAnd', tOr', tNot', sNil, sCons, sCall, allD, sN, allR, PD.res, sTup, sLst, sFr, gN, gT, gsNil, gsCons, sIsi, tyName, isSub, sOrE, sM1, sM1T, fAdd_int, fSub, fLe, fLt, fGt, fGe, eq_int, ne_int, cont?, setCont, List.replicate, fLen, sOwn, sApp, wipeE, pr]
  obtain ⟨bad, hbad⟩ : ∃ z, z = ((os.zip (rowsN n h os ps)).filter fun q => !decide (met h q.2 = q.1)).map fun q => tN q.1 := ⟨_, rfl⟩
  have c2 : c2_from_orders [.dat (iN n), .dat (iN h), .dat (.tuple O), .dat (.tuple T), .dat (.list W), .dat C, .un, .un, .un, .un] = some (bad, [.dat (iN n), .dat (iN h), .dat (.tuple O), .dat (.tuple T), .dat (.list W), .dat C, .un, .un, .un, .un]) := by
    rw [hbad]
    refine sComp_on (os.zip (rowsN n h os ps)) (fun p => .tuple [tN p.1, tN p.2]) (fun q => tN q.1) _ (by rw [← zipD_map, ← hO, ← hW]; rfl) rfl (by rw [List.length_zip, R.lo, len, Nat.min_self]; omega) rfl fun q hq => ⟨_, rfl, rfl, ?_, ?_⟩
    · have lm := lands_met h q.2 (by rw [rowsN_mem (zip_mem hq).2]; omega)
      have ne := ne_tN (met h q.2) q.1
      obtain ⟨x, hx⟩ : ∃ z, z = tN q.1 := ⟨_, rfl⟩
      obtain ⟨y, hy⟩ : ∃ z, z = tN q.2 := ⟨_, rfl⟩
      obtain ⟨z, hz⟩ : ∃ z, z = tN (met h q.2) := ⟨_, rfl⟩
      rw [← hy, ← hz] at lm
      rw [← hx, ← hz] at ne
      rw [← hx, ← hy]
      simp [bodyP, bodyI, startE, startI, sSeq, sRet, sAsg, sExp, sIfS, sNx, sV, sB, sC, PD.s2, toT, sTr, truth, bne_dec, sChain, sAnd, sOr, sNot, sIf, tAnd', tOr', tNot', sNil, sCons, sCall, allD, sN, allR, PD.res, sTup, sLst, sFr, gN, gT, gsNil, gsCons, sIsi, tyName, isSub, sOrE, sM1, sM1T, fAdd_int, fSub, fLe, fLt, fGt, fGe, eq_int, ne_int, cont?, setCont, List.replicate, fLen, sOwn, sApp, wipeE, lm, ne]
    · intro _
      obtain ⟨x, hx⟩ : ∃ z, z = tN q.1 := ⟨_, rfl⟩
      obtain ⟨y, hy⟩ : ∃ z, z = tN q.2 := ⟨_, rfl⟩
      rw [← hx, ← hy]
      simp [bodyP, bodyI, startE, startI, sSeq, sRet, sAsg, sExp, sIfS, sNx, sV, sB, sC, PD.s2, toT, sTr, truth, bne_dec, sChain, sAnd, sOr, sNot, sIf, tAnd', tOr', tNot', sNil, sCons, sCall, allD, sN, allR, PD.res, sTup, sLst, sFr, gN, gT, gsNil, gsCons, sIsi, tyName, isSub, sOrE, sM1, sM1T, fAdd_int, fSub, fLe, fLt, fGt, fGe, eq_int, ne_int, cont?, setCont, List.replicate, fLen, sOwn, sApp, wipeE]
  rw [← hC] at hb q5 ⊢
  rw [← hO] at q1 q2 ⊢
  rw [← hT] at q2 ⊢
  rw [← hW] at q5
  obtain ⟨g, hg⟩ : ∃ z, z = (os.zip (rowsN n h os ps)).all (fun q => decide (met h q.2 = q.1)) := ⟨_, rfl⟩
  rw [← hg]
  cases g with
  | true =>
    have : bad = [] := by
      rw [hbad, List.map_eq_nil_iff, List.filter_eq_nil_iff]
      intro q hq
      have := List.all_eq_true.mp hg.symm q hq
      rw [this]
      simp
    subst this
    unfold p_from_orders g_from_orders
    cases b with
    | true => simp [bodyP, bodyI, startE, startI, sSeq, sRet, sAsg, sExp, sIfS, sNx, sV, sB, sC, PD.s2, toT, sTr, truth, bne_dec, sChain, sAnd, sOr, sNot, sIf, tAnd', tOr', tNot', sNil, sCons, sCall, allD, sN, allR, PD.res, sTup, sLst, sFr, gN, gT, gsNil, gsCons, sIsi, tyName, isSub, sOrE, sM1, sM1T, fAdd_int, fSub, fLe, fLt, fGt, fGe, eq_int, ne_int, cont?, setCont, List.replicate, fLen, sOwn, sApp, q1, q2, q3, q4, q5, c1, c2, hb]
    | false => simp [bodyP, bodyI, startE, startI, sSeq, sRet, sAsg, sExp, sIfS, sNx, sV, sB, sC, PD.s2, toT, sTr, truth, bne_dec, sChain, sAnd, sOr, sNot, sIf, tAnd', tOr', tNot', sNil, sCons, sCall, allD, sN, allR, PD.res, sTup, sLst, sFr, gN, gT, gsNil, gsCons, sIsi, tyName, isSub, sOrE, sM1, sM1T, fAdd_int, fSub, fLe, fLt, fGt, fGe, eq_int, ne_int, cont?, setCont, List.replicate, fLen, sOwn, sApp, q1, q2, q3, q4, q5, c1, c2, hb]
  | false =>
    obtain ⟨x, r, e⟩ : ∃ x r, bad = x :: r := by
      cases hb2 : bad with
      | cons x r => exact ⟨x, r, rfl⟩
      | nil =>
        exfalso
        rw [hb2] at hbad
        have e := List.map_eq_nil_iff.mp hbad.symm
        rw [List.filter_eq_nil_iff] at e
        have : (os.zip (rowsN n h os ps)).all (fun q => decide (met h q.2 = q.1)) = true := List.all_eq_true.mpr fun q hq => by
          have := e q hq
          simpa using this
        rw [this] at hg
        cases hg
    subst e
    unfold p_from_orders g_from_orders
    cases b with
    | true => simp [bodyP, bodyI, startE, startI, sSeq, sRet, sAsg, sExp, sIfS, sNx, sV, sB, sC, PD.s2, toT, sTr, truth, bne_dec, sChain, sAnd, sOr, sNot, sIf, tAnd', tOr', tNot', sNil, sCons, sCall, allD, sN, allR, PD.res, sTup, sLst, sFr, gN, gT, gsNil, gsCons, sIsi, tyName, isSub, sOrE, sM1, sM1T, fAdd_int, fSub, fLe, fLt, fGt, fGe, eq_int, ne_int, cont?, setCont, List.replicate, fLen, sOwn, sApp, q1, q2, q3, q4, q5, c1, c2, hb]
    | false => simp [bodyP, bodyI, startE, startI, sSeq, sRet, sAsg, sExp, sIfS, sNx, sV, sB, sC, PD.s2, toT, sTr, truth, bne_dec, sChain, sAnd, sOr, sNot, sIf, tAnd', tOr', tNot', sNil, sCons, sCall, allD, sN, allR, PD.res, sTup, sLst, sFr, gN, gT, gsNil, gsCons, sIsi, tyName, isSub, sOrE, sM1, sM1T, fAdd_int, fSub, fLe, fLt, fGt, fGe, eq_int, ne_int, cont?, setCont, List.replicate, fLen, sOwn, sApp, q1, q2, q3, q4, q5, c1, c2, hb]
end
end S89

namespace S89
open PySem PD PySem.W
/-! ### the places at which a row changes its land -/
def spo (h k : Nat) : List Nat → List Nat
  | [] => []
  | v :: r => if v = h then spo v (k + 1) r else k :: spo v (k + 1) r
theorem spo_in (r : List Nat) : ∀ (h k : Nat), ∀ x ∈ spo h k r, k ≤ x ∧ x < k + r.length := by
  induction r with
  | nil => intro h k x hx; cases hx
  | cons v r ih =>
    intro h k x hx
    rw [List.length_cons]
    unfold spo at hx
    split at hx
    · have := ih v (k + 1) x hx
      omega
    · rcases List.mem_cons.mp hx with e | hx
      · omega
      · have := ih v (k + 1) x hx
        omega
theorem spo_up (r : List Nat) : ∀ (h k : Nat), (spo h k r).Pairwise (· < ·) := by
  induction r with
  | nil => intro h k; exact .nil
  | cons v r ih =>
    intro h k
    unfold spo
    split
    · exact ih v (k + 1)
    · refine .cons (fun x hx => ?_) (ih v (k + 1))
      have := spo_in r v (k + 1) x hx
      omega
theorem spo_len (r : List Nat) : ∀ (h k : Nat), (spo h k r).length = (met h r).length := by
  induction r with
  | nil => intro h k; rfl
  | cons v r ih =>
    intro h k
    unfold spo met
    split
    · exact ih v (k + 1)
    · rw [List.length_cons, List.length_cons, ih v (k + 1)]
theorem mem_spo (r : List Nat) : ∀ (h k j : Nat), j ∈ spo h k r ↔ ∃ i, j = k + i ∧ i < r.length ∧ r.getD i 0 ≠ (h :: r).getD i 0 := by
  induction r with
  | nil =>
    intro h k j
    constructor
    · intro h; cases h
    · rintro ⟨i, _, h, _⟩
      exact absurd h (Nat.not_lt_zero _)
  | cons v r ih =>
    intro h k j
    have step : (j ∈ spo v (k + 1) r) ↔ ∃ i, j = k + (i + 1) ∧ i + 1 < (v :: r).length ∧ (v :: r).getD (i + 1) 0 ≠ (h :: v :: r).getD (i + 1) 0 := by
      rw [ih v (k + 1) j]
      constructor
      · rintro ⟨i, rfl, h1, h2⟩
        exact ⟨i, by omega, by rw [List.length_cons]; omega, h2⟩
      · rintro ⟨i, rfl, h1, h2⟩
        rw [List.length_cons] at h1
        exact ⟨i, by omega, by omega, h2⟩
    unfold spo
    split
    · rename_i e
      subst e
      rw [step]
      constructor
      · rintro ⟨i, h1, h2, h3⟩
        exact ⟨i + 1, h1, h2, h3⟩
      · rintro ⟨i, h1, h2, h3⟩
        cases i with
        | zero => exact absurd rfl h3
        | succ i => exact ⟨i, h1, h2, h3⟩
    · rename_i ne
      rw [List.mem_cons, step]
      constructor
      · rintro (e | ⟨i, h1, h2, h3⟩)
        · exact ⟨0, by omega, by rw [List.length_cons]; omega, ne⟩
        · exact ⟨i + 1, h1, h2, h3⟩
      · rintro ⟨i, h1, h2, h3⟩
        cases i with
        | zero => exact .inl (by omega)
        | succ i => exact .inr ⟨i, h1, h2, h3⟩
theorem met_spo (r : List Nat) : ∀ (h k : Nat), met h r = (spo h k r).map fun j => r.getD (j - k) 0 := by
  induction r with
  | nil => intro h k; rfl
  | cons v r ih =>
    intro h k
    have e : (spo v (k + 1) r).map (fun j => r.getD (j - (k + 1)) 0) = (spo v (k + 1) r).map fun j => (v :: r).getD (j - k) 0 := by
      refine List.map_congr_left fun j hj => ?_
      have := (spo_in r v (k + 1) j hj).1
      have : j - k = (j - (k + 1)) + 1 := by omega
      rw [this]
      rfl
    unfold spo met
    split
    · rw [ih v (k + 1), e]
    · rw [List.map_cons, ih v (k + 1), e, Nat.sub_self]
      rfl
/-- the row of its own orders and places -/
theorem cur_back (r : List Nat) : ∀ (H h k : Nat) (os ps : List Nat), os.length = ps.length → (∀ x ∈ ps, x < k) → curL H (os ++ met h r) (ps ++ spo h k r) k = h → ∀ i, i < r.length → curL H (os ++ met h r) (ps ++ spo h k r) (k + i + 1) = r.getD i 0 := by
  induction r with
  | nil => intro H h k os ps _ _ _ i hi; exact absurd hi (Nat.not_lt_zero _)
  | cons v r ih =>
    intro H h k os ps hl hp hc i hi
    have knp : k ∉ ps := fun z => Nat.lt_irrefl _ (hp k z)
    have kns : k ∉ spo v (k + 1) r := fun z => by have := (spo_in r v (k + 1) k z).1; omega
    unfold met spo at hc ⊢
    by_cases e : v = h
    · rw [if_pos e, if_pos e] at hc ⊢
      have first : curL H (os ++ met v r) (ps ++ spo v (k + 1) r) (k + 1) = v := by
        rw [curL, if_neg (by rw [List.mem_append]; exact fun z => z.elim knp kns), hc, e]
      cases i with
      | zero => exact first
      | succ i =>
        have := ih H v (k + 1) os ps hl (fun x hx => Nat.lt_succ_of_lt (hp x hx)) first i (by rw [List.length_cons] at hi; omega)
        rw [show k + (i + 1) + 1 = k + 1 + i + 1 by omega, this]
        rfl
    · rw [if_neg e, if_neg e] at hc ⊢
      have first : curL H (os ++ v :: met v r) (ps ++ k :: spo v (k + 1) r) (k + 1) = v := by
        rw [curL, if_pos (by simp), List.idxOf_append, if_neg knp, List.idxOf_cons_self, Nat.zero_add, ← hl, List.getD_eq_getElem?_getD, List.getElem?_append_right (Nat.le_refl _), Nat.sub_self]
        rfl
      cases i with
      | zero => exact first
      | succ i =>
        have e1 : os ++ v :: met v r = (os ++ [v]) ++ met v r := by simp
        have e2 : ps ++ k :: spo v (k + 1) r = (ps ++ [k]) ++ spo v (k + 1) r := by simp
        rw [e1, e2] at first ⊢
        have := ih H v (k + 1) (os ++ [v]) (ps ++ [k]) (by simp [hl]) (fun x hx => by
          rcases List.mem_append.mp hx with z | z
          · exact Nat.lt_succ_of_lt (hp x z)
          · rw [List.mem_singleton.mp z]; exact Nat.lt_succ_self _) first i (by rw [List.length_cons] at hi; omega)
        rw [show k + (i + 1) + 1 = k + 1 + i + 1 by omega, this]
        rfl
theorem placed_back {n h : Nat} {r : List Nat} (hr : r.length = n) : placedN n h (met h r) (spo h 0 r) = r := by
  unfold placedN
  refine List.ext_getElem (by simp [hr]) fun i h1 h2 => ?_
  rw [List.getElem_map, List.getElem_range]
  have := cur_back r h h 0 [] [] rfl (fun x hx => by cases hx) rfl i h2
  rw [List.nil_append, List.nil_append, Nat.zero_add] at this
  rw [this, List.getD_eq_getElem?_getD, List.getElem?_eq_getElem h2]
  rfl
/-! ### the lands that a row of orders and places meets -/
theorem idx_up {i : Nat} : ∀ {p : List Nat}, p.Pairwise (· < ·) → i ∈ p → p.idxOf i = p.countP (fun x => decide (x < i))
  | [], _, h => by cases h
  | x :: p, hp, hi => by
    have gt := fun {z} => List.rel_of_pairwise_cons hp (a' := z)
    rcases List.mem_cons.mp hi with e | hi
    · subst e
      rw [List.idxOf_cons_self, List.countP_cons, if_neg (by simp), Nat.add_zero, eq_comm, List.countP_eq_zero]
      intro y hy
      have := gt hy
      simp
      omega
    · have lt := gt hi
      have ne : ¬ x = i := by omega
      have ne2 : (x == i) = false := by simpa using ne
      rw [List.idxOf_cons, ne2, List.countP_cons, if_pos (by simpa using lt), idx_up (List.Pairwise.of_cons hp) hi]
      rfl
theorem count_next {i : Nat} : ∀ {p : List Nat}, p.Pairwise (· < ·) → p.countP (fun x => decide (x < i + 1)) = p.countP (fun x => decide (x < i)) + (if i ∈ p then 1 else 0)
  | [], _ => rfl
  | x :: p, hp => by
    have gt := fun {z} => List.rel_of_pairwise_cons hp (a' := z)
    have ih := count_next (i := i) (List.Pairwise.of_cons hp)
    rw [List.countP_cons, List.countP_cons, ih]
    by_cases e : x = i
    · subst e
      have no : x ∉ p := fun z => Nat.lt_irrefl _ (gt z)
      simp [no]
    · have e' : ¬ i = x := fun z => e z.symm
      by_cases lt : x < i
      · have : x < i + 1 := by omega
        simp [lt, this, e']
        omega
      · have : ¬ x < i + 1 := by omega
        simp [lt, this, e']
theorem cur_at {h : Nat} {o p : List Nat} (hp : p.Pairwise (· < ·)) (hl : p.length = o.length) : ∀ i, curL h o p i = (h :: o).getD (p.countP fun x => decide (x < i)) 0
  | 0 => by
    have : p.countP (fun x => decide (x < 0)) = 0 := by rw [List.countP_eq_zero]; intro x _; simp
    rw [this]
    rfl
  | i + 1 => by
    rw [curL, count_next hp]
    by_cases hi : i ∈ p
    · rw [if_pos hi, if_pos hi, idx_up hp hi]
      rfl
    · rw [if_neg hi, if_neg hi, cur_at hp hl i, Nat.add_zero]
theorem last_placed {h : Nat} {o p : List Nat} : ∀ i, lastOf h (placedN i h o p) = curL h o p i
  | 0 => rfl
  | i + 1 => by
    unfold placedN
    rw [List.range_succ, List.map_append]
    exact lastOf_app h _ _
theorem met_placed {h : Nat} {o p : List Nat} (hp : p.Pairwise (· < ·)) (hl : p.length = o.length) (nd : (h :: o).Nodup) : ∀ i, met h (placedN i h o p) = o.take (p.countP fun x => decide (x < i))
  | 0 => by
    have : p.countP (fun x => decide (x < 0)) = 0 := by rw [List.countP_eq_zero]; intro x _; simp
    rw [this]
    rfl
  | i + 1 => by
    have e : placedN (i + 1) h o p = placedN i h o p ++ [curL h o p (i + 1)] := by
      unfold placedN
      rw [List.range_succ, List.map_append]
      rfl
    rw [e, met_app, met_placed hp hl nd i, last_placed, count_next hp]
    by_cases hi : i ∈ p
    · rw [if_pos hi, cur_at hp hl (i + 1), cur_at hp hl i, count_next hp, if_pos hi]
      have lt : (p.countP fun x => decide (x < i)) < o.length := by
        rw [← hl, ← idx_up hp hi]
        exact List.idxOf_lt_length_of_mem hi
      generalize (p.countP fun x => decide (x < i)) = c at lt ⊢
      have g1 : (h :: o).getD (c + 1) 0 = o[c] := by
        rw [List.getD_eq_getElem?_getD, List.getElem?_cons_succ, List.getElem?_eq_getElem lt]
        rfl
      have l1 : c + 1 < (h :: o).length := by rw [List.length_cons]; omega
      have l0 : c < (h :: o).length := by omega
      have ne : (h :: o).getD (c + 1) 0 ≠ (h :: o).getD c 0 := by
        rw [List.getD_eq_getElem?_getD, List.getD_eq_getElem?_getD, List.getElem?_eq_getElem l1, List.getElem?_eq_getElem l0]
        intro z
        exact (List.pairwise_iff_getElem.mp nd c (c + 1) l0 l1 (Nat.lt_succ_self c)) (Eq.symm z)
      rw [if_neg ne, g1, List.take_add_one, List.getElem?_eq_getElem lt]
      rfl
    · rw [if_neg hi, cur_at hp hl (i + 1), cur_at hp hl i, count_next hp, if_neg hi, Nat.add_zero, if_pos rfl, List.append_nil]
theorem met_all {n h : Nat} {o p : List Nat} (hp : p.Pairwise (· < ·)) (hl : p.length = o.length) (nd : (h :: o).Nodup) (lt : ∀ x ∈ p, x < n) : met h (placedN n h o p) = o := by
  rw [met_placed hp hl nd]
  have : (p.countP fun x => decide (x < n)) = p.length := by
    rw [List.countP_eq_length]
    intro x hx
    simpa using lt x hx
  rw [this, hl, List.take_length]
end S89

namespace S89
open PySem PD PySem.W
/-! ### maps by their rows -/
def gR (rows : List (List Nat)) (k : Nat) : List Nat := rows.getD k []
theorem gR_mem {rows : List (List Nat)} {k : Nat} (hk : k < rows.length) : gR rows k ∈ rows := by
  unfold gR
  rw [List.getD_eq_getElem?_getD, List.getElem?_eq_getElem hk]
  exact List.getElem_mem hk
theorem mem_gR {rows : List (List Nat)} {r : List Nat} (h : r ∈ rows) : ∃ k, k < rows.length ∧ gR rows k = r := by
  obtain ⟨k, hk, e⟩ := List.getElem_of_mem h
  exact ⟨k, hk, by unfold gR; rw [List.getD_eq_getElem?_getD, List.getElem?_eq_getElem hk]; exact e⟩
theorem flat_get {n : Nat} : ∀ {rows : List (List Nat)}, (∀ r ∈ rows, r.length = n) → ∀ {k j : Nat}, k < rows.length → j < n → rows.flatten[k * n + j]? = (gR rows k)[j]?
  | [], _, _, _, hk, _ => absurd hk (Nat.not_lt_zero _)
  | r :: rows, hl, k, j, hk, hj => by
    have h0 := hl r (List.mem_cons_self ..)
    rw [List.flatten_cons]
    cases k with
    | zero =>
      rw [Nat.zero_mul, Nat.zero_add, List.getElem?_append_left (by rw [h0]; exact hj)]
      rfl
    | succ k =>
      rw [List.getElem?_append_right (by rw [h0, Nat.add_mul]; omega)]
      have e : (k + 1) * n + j - r.length = k * n + j := by rw [h0, Nat.add_mul, Nat.one_mul]; omega
      rw [e, flat_get (fun x hx => hl x (List.mem_cons_of_mem _ hx)) (by rw [List.length_cons] at hk; omega) hj]
      rfl
structure Rw (a n : Nat) (rows : List (List Nat)) : Prop where
  ha : 3 ≤ a ∧ a ≤ 4
  hn : 1 ≤ n ∧ n ≤ 4
  len : rows.length = a
  each : ∀ r ∈ rows, r.length = n
section
variable {a n h : Nat} {rows : List (List Nat)}
def mapOf (h : Nat) (rows : List (List Nat)) : List Nat := h :: rows.flatten
theorem flat_len {n : Nat} : ∀ {rows : List (List Nat)}, (∀ r ∈ rows, r.length = n) → rows.flatten.length = rows.length * n
  | [], _ => by simp
  | r :: rows, h => by
    rw [List.flatten_cons, List.length_append, h r (List.mem_cons_self ..), flat_len fun x hx => h x (List.mem_cons_of_mem _ hx), List.length_cons, Nat.add_mul, Nat.one_mul, Nat.add_comm]
theorem Rw.mlen (R : Rw a n rows) : (mapOf h rows).length = 1 + a * n := by
  unfold mapOf
  rw [List.length_cons, flat_len R.each, R.len, Nat.add_comm]
theorem Rw.shp (R : Rw a n rows) : Shp a n (mapOf h rows) := by
  have h1 := R.ha
  have h2 := R.hn
  exact ⟨by simp; omega, by simp; omega, R.mlen⟩
theorem Rw.glen (R : Rw a n rows) {k : Nat} (hk : k < a) : (gR rows k).length = n := R.each _ (gR_mem (by rw [R.len]; exact hk))
theorem Rw.at_ (R : Rw a n rows) {k j : Nat} (hk : k < a) (hj : j < n) : ca (mapOf h rows) (1 + k * n + j) = (gR rows k).getD j 0 := by
  unfold ca mapOf
  rw [List.getD_eq_getElem?_getD, show 1 + k * n + j = (k * n + j) + 1 by omega, List.getElem?_cons_succ, flat_get R.each (by rw [R.len]; exact hk) hj, List.getD_eq_getElem?_getD]
theorem at0 : ca (mapOf h rows) 0 = h := rfl
theorem inner_pl {n k j : Nat} (hj : j < n) : inner n (1 + k * n + j) = if j = 0 then 0 else 1 + k * n + (j - 1) := by
  unfold inner
  have e : (1 + k * n + j - 1) % n = j := by
    rw [show 1 + k * n + j - 1 = j + n * k by rw [Nat.mul_comm n k]; omega, Nat.add_mul_mod_self_left, Nat.mod_eq_of_lt hj]
  rw [e]
  split
  · rfl
  · omega
theorem Rw.inner (R : Rw a n rows) {k j : Nat} (hk : k < a) (hj : j < n) : ca (mapOf h rows) (S89.inner n (1 + k * n + j)) = (h :: gR rows k).getD j 0 := by
  rw [inner_pl hj]
  cases j with
  | zero => rfl
  | succ j =>
    rw [if_neg (by omega), Nat.succ_sub_one, R.at_ hk (by omega)]
    rfl
theorem Rw.lt (R : Rw a n rows) {k j : Nat} (hk : k < a) (hj : j < n) : 1 + k * n + j < (mapOf h rows).length := by
  rw [R.mlen]
  have : (k + 1) * n ≤ a * n := Nat.mul_le_mul_right _ hk
  rw [Nat.add_mul, Nat.one_mul] at this
  omega
theorem Rw.root (R : Rw a n rows) {k j : Nat} (hk : k < a) (hj : j < n) : isRoot n (mapOf h rows) (1 + k * n + j) ↔ j ∈ spo h 0 (gR rows k) := by
  rw [mem_spo]
  unfold isRoot
  rw [R.at_ hk hj, R.inner hk hj]
  constructor
  · rintro (z | z)
    · omega
    · exact ⟨j, by omega, by rw [R.glen hk]; exact hj, z⟩
  · rintro ⟨i, e, _, z⟩
    have : i = j := by omega
    subst this
    exact .inr z
theorem Rw.place (R : Rw a n rows) {c : Nat} (hc : c < (mapOf h rows).length) (h0 : c ≠ 0) : ∃ k j, k < a ∧ j < n ∧ c = 1 + k * n + j := by
  rw [R.mlen] at hc
  have hn := R.hn
  refine ⟨(c - 1) / n, (c - 1) % n, ?_, Nat.mod_lt _ (by omega), ?_⟩
  · rw [Nat.div_lt_iff_lt_mul (by omega)]
    omega
  · have := Nat.div_add_mod (c - 1) n
    rw [Nat.mul_comm] at this
    omega
theorem place_one {k j k' j' : Nat} (hj : j < n) (hj' : j' < n) (e : 1 + k * n + j = 1 + k' * n + j') : k = k' ∧ j = j' := by
  have e1 : j + n * k = j' + n * k' := by rw [Nat.mul_comm n k, Nat.mul_comm n k']; omega
  have m1 : (j + n * k) % n = j := by rw [Nat.add_mul_mod_self_left, Nat.mod_eq_of_lt hj]
  have m2 : (j' + n * k') % n = j' := by rw [Nat.add_mul_mod_self_left, Nat.mod_eq_of_lt hj']
  have ej : j = j' := by rw [← m1, ← m2, e1]
  have n0 : 0 < n := by omega
  have d1 : (j + n * k) / n = k := by rw [Nat.add_mul_div_left _ _ n0, Nat.div_eq_of_lt hj, Nat.zero_add]
  have d2 : (j' + n * k') / n = k' := by rw [Nat.add_mul_div_left _ _ n0, Nat.div_eq_of_lt hj', Nat.zero_add]
  exact ⟨by rw [← d1, ← d2, e1], ej⟩
theorem Rw.in_met (R : Rw a n rows) {k v : Nat} (hk : k < a) : v ∈ met h (gR rows k) ↔ ∃ j, j < n ∧ isRoot n (mapOf h rows) (1 + k * n + j) ∧ ca (mapOf h rows) (1 + k * n + j) = v := by
  rw [met_spo _ h 0, List.mem_map]
  constructor
  · rintro ⟨j, hj, e⟩
    have lj := (spo_in _ h 0 j hj).2
    rw [R.glen hk, Nat.zero_add] at lj
    exact ⟨j, lj, (R.root hk lj).mpr hj, by rw [R.at_ hk lj]; exact e⟩
  · rintro ⟨j, lj, hj, e⟩
    rw [R.at_ hk lj] at e
    exact ⟨j, (R.root hk lj).mp hj, e⟩
/-- the hub's land met on an arm: no map -/
theorem Rw.no_chart (R : Rw a n rows) {k : Nat} (hk : k < a) (hm : h ∈ met h (gR rows k)) : p_is_chart [ch a (mapOf h rows)] = some (.bool false) := by
  obtain ⟨b, q, ib⟩ := chart_eval (R.shp (h := h))
  cases b with
  | false => exact q
  | true =>
    exfalso
    obtain ⟨_, _, one⟩ := ib.mp rfl
    have pos : 0 < (mapOf h rows).length := by rw [R.mlen]; omega
    obtain ⟨r, _, _, _, u⟩ := one h (Nat.lt_succ_of_le (le_maxN (List.mem_cons_self ..)))
    obtain ⟨j, lj, rt, e⟩ := (R.in_met hk).mp hm
    have e0 := u 0 pos (.inl rfl) rfl
    have e1 := u _ (R.lt hk lj) rt e
    omega
/-! ### orders -/
structure Ords (a h m : Nat) (os : List (List Nat)) : Prop where
  lo : os.length = a
  hh : h < m
  nd : ∀ k, k < a → (h :: gR os k).Nodup
  dj : ∀ k l v, k < a → l < a → v ∈ gR os k → v ∈ gR os l → k = l
  cov : ∀ v, v < m → v = h ∨ ∃ k, k < a ∧ v ∈ gR os k
  lt : ∀ k, k < a → ∀ v ∈ gR os k, v < m
theorem gR_map {f : List Nat → List Nat} {rows : List (List Nat)} {k : Nat} (hk : k < rows.length) : gR (rows.map f) k = f (gR rows k) := by
  unfold gR
  rw [List.getD_eq_getElem?_getD, List.getElem?_map, List.getD_eq_getElem?_getD, List.getElem?_eq_getElem hk]
  rfl
theorem inj_of_nodup {f : Nat → Nat} : ∀ {l : List Nat}, (l.map f).Nodup → ∀ x ∈ l, ∀ y ∈ l, f x = f y → x = y
  | [], _, _, h, _, _, _ => by cases h
  | z :: l, nd, x, hx, y, hy, e => by
    rw [List.map_cons, List.nodup_cons] at nd
    rcases List.mem_cons.mp hx with e1 | hx
    · rcases List.mem_cons.mp hy with e2 | hy
      · rw [e1, e2]
      · rw [← e1, e] at nd
        exact absurd (List.mem_map_of_mem hy) nd.1
    · rcases List.mem_cons.mp hy with e2 | hy
      · rw [← e2, ← e] at nd
        exact absurd (List.mem_map_of_mem hx) nd.1
      · exact inj_of_nodup nd.2 x hx y hy e
variable {m : Nat}
theorem Rw.ords (R : Rw a n rows) (V : Valid a n m (mapOf h rows)) : Ords a h m (rows.map (met h)) := by
  have g : ∀ k, k < a → gR (rows.map (met h)) k = met h (gR rows k) := fun k hk => gR_map (by rw [R.len]; exact hk)
  have pos : 0 < (mapOf h rows).length := by rw [R.mlen]; omega
  refine ⟨by rw [List.length_map, R.len], V.lt h (List.mem_cons_self ..), fun k hk => ?_, fun k l v hk hl h1 h2 => ?_, fun v hv => ?_, fun k hk v hv => ?_⟩
  · rw [g k hk, List.nodup_cons]
    refine ⟨fun z => ?_, ?_⟩
    · obtain ⟨j, lj, rt, e⟩ := (R.in_met hk).mp z
      have := V.unique pos (R.lt hk lj) (.inl rfl) rt (by rw [e]; rfl)
      omega
    · rw [met_spo _ h 0]
      refine nodup_map ((spo_up _ _ _).imp fun h => Nat.ne_of_lt h) fun x hx y hy e => ?_
      have lx := (spo_in _ h 0 x hx).2
      have ly := (spo_in _ h 0 y hy).2
      rw [R.glen hk, Nat.zero_add] at lx ly
      rw [Nat.sub_zero, Nat.sub_zero] at e
      have := V.unique (R.lt hk lx) (R.lt hk ly) ((R.root hk lx).mpr hx) ((R.root hk ly).mpr hy) (by rw [R.at_ hk lx, R.at_ hk ly]; exact e)
      omega
  · rw [g k hk] at h1
    rw [g l hl] at h2
    obtain ⟨i, li, r1, e1⟩ := (R.in_met hk).mp h1
    obtain ⟨j, lj, r2, e2⟩ := (R.in_met hl).mp h2
    have := V.unique (R.lt hk li) (R.lt hl lj) r1 r2 (by rw [e1, e2])
    exact (place_one li lj this).1
  · have hm := V.cov v hv
    obtain ⟨c, hc, e⟩ := List.getElem_of_mem hm
    have ec : ca (mapOf h rows) c = v := by
      unfold ca
      rw [List.getD_eq_getElem?_getD, List.getElem?_eq_getElem hc]
      exact e
    obtain ⟨r, rc, rt, er⟩ := root_of n (mapOf h rows) c
    by_cases r0 : r = 0
    · subst r0
      exact .inl (by rw [← ec, ← er]; rfl)
    · obtain ⟨k, j, hk, hj, rfl⟩ := R.place (Nat.lt_of_le_of_lt rc hc) r0
      exact .inr ⟨k, hk, by rw [g k hk]; exact (R.in_met hk).mpr ⟨j, hj, rt, by rw [er, ec]⟩⟩
  · rw [g k hk] at hv
    obtain ⟨j, lj, _, e⟩ := (R.in_met hk).mp hv
    rw [← e]
    exact V.lt _ (ca_mem (R.lt hk lj))
theorem Rw.valid (R : Rw a n rows) {os : List (List Nat)} (hm : 2 ≤ m ∧ m ≤ n + 1) (O : Ords a h m os) (e : ∀ k, k < a → met h (gR rows k) = gR os k) : Valid a n m (mapOf h rows) := by
  have pos : 0 < (mapOf h rows).length := by rw [R.mlen]; omega
  have lt : ∀ v ∈ mapOf h rows, v < m := fun v hv => by
    obtain ⟨c, hc, ev⟩ := List.getElem_of_mem hv
    have ec : ca (mapOf h rows) c = v := by
      unfold ca
      rw [List.getD_eq_getElem?_getD, List.getElem?_eq_getElem hc]
      exact ev
    obtain ⟨r, rc, rt, er⟩ := root_of n (mapOf h rows) c
    by_cases r0 : r = 0
    · subst r0
      rw [← ec, ← er]
      exact O.hh
    · obtain ⟨k, j, hk, hj, rfl⟩ := R.place (Nat.lt_of_le_of_lt rc hc) r0
      refine O.lt k hk v ?_
      rw [← e k hk]
      exact (R.in_met hk).mpr ⟨j, hj, rt, by rw [er, ec]⟩
  have one : ∀ v, v < m → One n (mapOf h rows) v := fun v hv => by
    have ex : ∃ r, r < (mapOf h rows).length ∧ isRoot n (mapOf h rows) r ∧ ca (mapOf h rows) r = v := by
      rcases O.cov v hv with rfl | ⟨k, hk, hv⟩
      · exact ⟨0, pos, .inl rfl, rfl⟩
      · rw [← e k hk] at hv
        obtain ⟨j, lj, rt, ev⟩ := (R.in_met hk).mp hv
        exact ⟨_, R.lt hk lj, rt, ev⟩
    obtain ⟨r, hr, rt, ev⟩ := ex
    refine ⟨r, hr, rt, ev, fun r' hr' rt' ev' => ?_⟩
    have far : ∀ x, x < (mapOf h rows).length → isRoot n (mapOf h rows) x → x ≠ 0 → ∃ k j, k < a ∧ j < n ∧ x = 1 + k * n + j ∧ ca (mapOf h rows) x ∈ met h (gR rows k) := fun x hx rx x0 => by
      obtain ⟨k, j, hk, hj, rfl⟩ := R.place hx x0
      exact ⟨k, j, hk, hj, rfl, (R.in_met hk).mpr ⟨j, hj, rx, rfl⟩⟩
    have nothub : ∀ k, k < a → h ∉ met h (gR rows k) := fun k hk => by
      rw [e k hk]
      exact (List.nodup_cons.mp (O.nd k hk)).1
    by_cases r0 : r = 0
    · by_cases r0' : r' = 0
      · rw [r0, r0']
      · exfalso
        obtain ⟨k, j, hk, hj, _, hmem⟩ := far r' hr' rt' r0'
        rw [ev', ← ev, r0] at hmem
        exact nothub k hk hmem
    · by_cases r0' : r' = 0
      · exfalso
        obtain ⟨k, j, hk, hj, _, hmem⟩ := far r hr rt r0
        rw [ev, ← ev', r0'] at hmem
        exact nothub k hk hmem
      · obtain ⟨k, j, hk, hj, e1, m1⟩ := far r hr rt r0
        obtain ⟨l, i, hl, hi, e2, m2⟩ := far r' hr' rt' r0'
        rw [ev, e k hk] at m1
        rw [ev', e l hl] at m2
        have kl := O.dj k l v hk hl m1 m2
        subst kl
        have nd : (met h (gR rows k)).Nodup := by rw [e k hk]; exact (List.nodup_cons.mp (O.nd k hk)).2
        rw [met_spo _ h 0] at nd
        rw [e1] at rt ev
        rw [e2] at rt' ev'
        have := inj_of_nodup nd i ((R.root hk hi).mp rt') j ((R.root hk hj).mp rt) (by
          rw [Nat.sub_zero, Nat.sub_zero]
          rw [R.at_ hk hj] at ev
          rw [R.at_ hk hi] at ev'
          rw [ev, ev'])
        rw [e1, e2, this]
  obtain ⟨c1, c2⟩ := (one_iff (R.shp (h := h)) lt).mp one
  exact ⟨R.ha, R.hn, hm, R.mlen, lt, c1, c2⟩
end
end S89

namespace S89
open PySem PD PySem.W
/-! ### pairs in their order -/
def cdN (s : Nat × Nat) : Nat := s.1 * 64 + s.2
def Asc (T : List (Nat × Nat)) : Prop := T.Pairwise fun s t => cdN s < cdN t
def Sml (T : List (Nat × Nat)) : Prop := ∀ t ∈ T, t.1 < 64 ∧ t.2 < 64
theorem le_pair {s t : Nat × Nat} (h : W.dataLe (β := PyData) false id (tkD s) (tkD t) = true) : s.1 < t.1 ∨ (s.1 = t.1 ∧ s.2 ≤ t.2) := by
  obtain ⟨a, b⟩ := s
  obtain ⟨c, d⟩ := t
  have h2 : (!PyProof.Rows.lexLt PyProof.Rows.itemOrd [Sum.inl (1 : Int), Sum.inl (c : Int), Sum.inl 1, Sum.inl (d : Int), Sum.inl 0] [Sum.inl (1 : Int), Sum.inl (a : Int), Sum.inl 1, Sum.inl (b : Int), Sum.inl 0]) = true := h
  rcases Nat.lt_trichotomy a c with l | e | g
  · exact .inl l
  · subst e
    rcases Nat.lt_or_ge d b with l2 | g2
    · exfalso
      have : (d : Int) < (b : Int) := by omega
      simp [PyProof.Rows.lexLt, PyProof.Rows.itemLt, this] at h2
    · exact .inr ⟨rfl, g2⟩
  · exfalso
    have : (c : Int) < (a : Int) := by omega
    simp [PyProof.Rows.lexLt, PyProof.Rows.itemLt, this] at h2
theorem asc_one : ∀ {T U : List (Nat × Nat)}, Sml T → Asc T → Asc U → (∀ x, x ∈ T ↔ x ∈ U) → T = U := by
  intro T U sm hT hU h
  have smU : Sml U := fun t ht => sm t ((h t).mpr ht)
  have e : T.map cdN = U.map cdN := by
    refine asc_eq (List.pairwise_map.mpr hT) (List.pairwise_map.mpr hU) fun v => ?_
    rw [List.mem_map, List.mem_map]
    constructor
    · rintro ⟨x, hx, rfl⟩; exact ⟨x, (h x).mp hx, rfl⟩
    · rintro ⟨x, hx, rfl⟩; exact ⟨x, (h x).mpr hx, rfl⟩
  have back : ∀ {L : List (Nat × Nat)}, Sml L → (L.map cdN).map (fun c => (c / 64, c % 64)) = L := fun {L} sl => by
    rw [List.map_map]
    have : ∀ x ∈ L, ((fun c => (c / 64, c % 64)) ∘ cdN) x = id x := fun x hx => by
      obtain ⟨h1, h2⟩ := sl x hx
      obtain ⟨p, q⟩ := x
      show ((p * 64 + q) / 64, (p * 64 + q) % 64) = (p, q)
      dsimp only at h1 h2
      refine Prod.ext ?_ ?_
      · show (p * 64 + q) / 64 = p
        omega
      · show (p * 64 + q) % 64 = q
        omega
    rw [List.map_congr_left this, List.map_id]
  rw [← back sm, ← back smU, e]
theorem sorted_asc {T : List (Nat × Nat)} (nd : T.Nodup) (sm : Sml T) : ∃ T' : List (Nat × Nat), fSorted [.list (T.map tkD)] = some (T'.map tkD) ∧ T'.Perm T ∧ Asc T' := by
  have perm : (sortD (T.map tkD)).Perm (T.map tkD) := List.mergeSort_perm _ _
  obtain ⟨T', e, p⟩ := perm_map perm
  refine ⟨T', ?_, p, ?_⟩
  · show (if sortOk (T.map tkD) then some (sortD (T.map tkD)) else none) = _
    rw [if_pos (sortOk_pairs T), e]
  · have q := sortD_pw (T.map tkD)
    rw [e] at q
    have nd' : T'.Nodup := p.nodup_iff.mpr nd
    refine ((List.pairwise_map.mp q).and nd').imp_of_mem fun {x y} hx hy ⟨le, ne⟩ => ?_
    obtain ⟨x1, x2⟩ := sm x (p.mem_iff.mp hx)
    obtain ⟨y1, y2⟩ := sm y (p.mem_iff.mp hy)
    unfold cdN
    rcases le_pair le with l | ⟨l1, l2⟩
    · omega
    · have : x.2 ≠ y.2 := fun z => ne (Prod.ext l1 z)
      omega
section
variable {a n m : Nat} {cells : List Nat}
theorem crs_up (n : Nat) (cells : List Nat) : (crs n cells).Nodup := List.Nodup.sublist List.filter_sublist List.nodup_range
theorem brd_nodup (n : Nat) (cells : List Nat) : (brd n cells).Nodup := by
  unfold brd
  have h := crs_up n cells
  refine List.pairwise_map.mpr (h.imp fun {x y} ne z => ne ?_)
  have := congrArg Prod.snd z
  simpa using this
theorem mem_brd {x : Nat × Nat} : x ∈ brd n cells ↔ 0 < x.2 ∧ x.2 < cells.length ∧ x.1 = inner n x.2 ∧ ca cells x.2 ≠ ca cells x.1 := by
  unfold brd crs
  rw [List.mem_map]
  constructor
  · rintro ⟨i, hi, rfl⟩
    obtain ⟨h1, h2⟩ := List.mem_filter.mp hi
    have := List.mem_range.mp h1
    exact ⟨Nat.succ_pos i, by show i + 1 < _; omega, rfl, of_decide_eq_true h2⟩
  · rintro ⟨h1, h2, h3, h4⟩
    obtain ⟨p, q⟩ := x
    dsimp only at h1 h2 h3 h4
    refine ⟨q - 1, List.mem_filter.mpr ⟨List.mem_range.mpr (by omega), ?_⟩, ?_⟩
    · rw [show q - 1 + 1 = q by omega, ← h3]
      exact decide_eq_true h4
    · rw [show q - 1 + 1 = q by omega, ← h3]
theorem brd_small (V : Valid a n m cells) : Sml (brd n cells) := fun t ht => by
  obtain ⟨h1, h2, h3, h4⟩ := mem_brd.mp ht
  have := V.len_lt
  have := inner_lt (n := n) h1
  rw [h3]
  omega
def parP (a n : Nat) (cells : List Nat) (c : Nat) : List (Nat × Nat) := ((nbr a n c).filter fun o => decide (c < o) && !decide (ca cells o = ca cells c)).map fun o => (c, o)
def allP (a n : Nat) (cells : List Nat) (i : Nat) : List (Nat × Nat) := (List.range i).flatMap (parP a n cells)
theorem mem_par {c : Nat} {x : Nat × Nat} : x ∈ parP a n cells c ↔ x.1 = c ∧ x.2 ∈ nbr a n c ∧ c < x.2 ∧ ca cells x.2 ≠ ca cells c := by
  unfold parP
  rw [List.mem_map]
  constructor
  · rintro ⟨o, ho, rfl⟩
    obtain ⟨h1, h2⟩ := List.mem_filter.mp ho
    rw [Bool.and_eq_true, decide_eq_true_eq] at h2
    exact ⟨rfl, h1, h2.1, by simpa using h2.2⟩
  · rintro ⟨h1, h2, h3, h4⟩
    refine ⟨x.2, List.mem_filter.mpr ⟨h2, by simp [h3, h4]⟩, by rw [← h1]⟩
theorem all_is (V : Valid a n m cells) {x : Nat × Nat} : x ∈ allP a n cells cells.length ↔ x ∈ brd n cells := by
  unfold allP
  rw [List.mem_flatMap, mem_brd]
  constructor
  · rintro ⟨c, hc, hx⟩
    have hc := List.mem_range.mp hc
    obtain ⟨h1, h2, h3, h4⟩ := mem_par.mp hx
    have lt := V.nbr_lt hc _ h2
    rcases V.nbr_in hc h2 with ⟨z1, z2⟩ | ⟨z1, z2⟩
    · exact ⟨by omega, lt, by rw [h1, z1], by rw [h1]; exact h4⟩
    · have := inner_lt (n := n) (show 0 < c by omega)
      omega
  · rintro ⟨h1, h2, h3, h4⟩
    have il := inner_lt (n := n) h1
    refine ⟨x.1, List.mem_range.mpr (by omega), mem_par.mpr ⟨rfl, ?_, by omega, h4⟩⟩
    rw [h3]
    exact (fin_touch a V.a_mem n V.n_mem x.2 (V.c_mem h2) (by omega)).2
theorem all_nodup (V : Valid a n m cells) : ∀ i, i ≤ cells.length → (allP a n cells i).Nodup
  | 0, _ => .nil
  | i + 1, hi => by
    have e : allP a n cells (i + 1) = allP a n cells i ++ parP a n cells i := by
      unfold allP
      rw [List.range_succ, List.flatMap_append]
      simp
    rw [e, List.nodup_append]
    refine ⟨all_nodup V i (by omega), ?_, fun x hx y hy e => ?_⟩
    · unfold parP
      have h := (List.Nodup.sublist (List.filter_sublist (p := fun o => decide (i < o) && !decide (ca cells o = ca cells i))) (V.nbr_eq (c := i) (by omega)).2.2)
      exact List.pairwise_map.mpr (h.imp fun {x y} ne z => ne (congrArg Prod.snd z))
    · subst e
      have h2 := (mem_par.mp hy).1
      unfold allP at hx
      obtain ⟨c, hc, hx⟩ := List.mem_flatMap.mp hx
      have h1 := (mem_par.mp hx).1
      have := List.mem_range.mp hc
      omega
end
end S89

namespace S89
open PySem PD PySem.W
theorem alike_int1 (s t : Nat) : W.alike (iN s) (iN t) = true := rfl
theorem sortOk_ints (T : List Nat) : sortOk (T.map iN) = true := by
  unfold sortOk
  simp only [Bool.and_eq_true, Bool.or_eq_true, List.all_eq_true, decide_eq_true_eq]
  refine ⟨⟨fun d hd e he => ?_, .inr fun d hd => ?_⟩, fun d hd => ?_⟩
  · obtain ⟨s, _, rfl⟩ := List.mem_map.mp hd
    obtain ⟨t, _, rfl⟩ := List.mem_map.mp he
    rfl
  · obtain ⟨s, _, rfl⟩ := List.mem_map.mp hd
    rfl
  · obtain ⟨s, _, rfl⟩ := List.mem_map.mp hd
    have := PySem.W.Datum.depth_le (α := Nat) s
    exact Nat.le_trans this (by decide)
theorem sorted_ints {T : List Nat} (nd : T.Nodup) : ∃ T' : List Nat, fSorted [.list (T.map iN)] = some (T'.map iN) ∧ T'.Perm T ∧ T'.Pairwise (· < ·) := by
  have perm : (sortD (T.map iN)).Perm (T.map iN) := List.mergeSort_perm _ _
  obtain ⟨T', e, p⟩ := perm_map (f := iN) perm
  refine ⟨T', ?_, p, ?_⟩
  · show (if sortOk (T.map iN) then some (sortD (T.map iN)) else none) = _
    rw [if_pos (sortOk_ints T), e]
  · have q := sortD_pw (T.map iN)
    rw [e] at q
    have nd' : T'.Nodup := p.nodup_iff.mpr nd
    refine ((List.pairwise_map.mp q).and nd').imp fun {x y} ⟨le, ne⟩ => ?_
    have := le_nat le
    omega
theorem fMin2_nat (i j : Nat) : fMin2 [iN i, iN j] = some (iN (if j < i then j else i)) := by
  show some (PyData.int (if (j : Int) < (i : Int) then (j : Int) else (i : Int))) = _
  by_cases h : j < i
  · rw [if_pos h, if_pos (by omega)]
  · rw [if_neg h, if_neg (by omega)]
theorem fMax2_nat (i j : Nat) : fMax2 [iN i, iN j] = some (iN (if j > i then j else i)) := by
  show some (PyData.int (if (j : Int) > (i : Int) then (j : Int) else (i : Int))) = _
  by_cases h : j > i
  · rw [if_pos h, if_pos (by omega)]
  · rw [if_neg h, if_neg (by omega)]
/-- the lands on the two sides of a border -/
def mm (cells : List Nat) (x : Nat × Nat) : Nat × Nat := (if ca cells x.2 < ca cells x.1 then ca cells x.2 else ca cells x.1, if ca cells x.2 > ca cells x.1 then ca cells x.2 else ca cells x.1)
section
variable {a n m : Nat} {cells : List Nat}
theorem mm_lt {x : Nat × Nat} (h : ca cells x.2 ≠ ca cells x.1) : (mm cells x).1 < (mm cells x).2 := by
  unfold mm
  dsimp only
  split <;> split <;> omega
theorem mm_inj (V : Valid a n m cells) {x y : Nat × Nat} (hx : x ∈ brd n cells) (hy : y ∈ brd n cells) (e : mm cells x = mm cells y) : x = y := by
  obtain ⟨x1, x2, x3, x4⟩ := mem_brd.mp hx
  obtain ⟨y1, y2, y3, y4⟩ := mem_brd.mp hy
  have rx : isRoot n cells x.2 := .inr (by rw [← x3]; exact x4)
  have ry : isRoot n cells y.2 := .inr (by rw [← y3]; exact y4)
  have e1 := congrArg Prod.fst e
  have e2 := congrArg Prod.snd e
  unfold mm at e1 e2
  dsimp only at e1 e2
  have lx := inner_lt (n := n) x1
  have ly := inner_lt (n := n) y1
  have same : ca cells x.2 = ca cells y.2 → x = y := fun s => by
    have := V.unique x2 y2 rx ry s
    exact Prod.ext (by rw [x3, y3, this]) this
  by_cases s : ca cells x.2 = ca cells y.2
  · exact same s
  · exfalso
    have c1 : ca cells x.2 = ca cells y.1 := by
      split at e1 <;> split at e1 <;> split at e2 <;> split at e2 <;> omega
    have c2 : ca cells y.2 = ca cells x.1 := by
      split at e1 <;> split at e1 <;> split at e2 <;> split at e2 <;> omega
    obtain ⟨r, r1, r2, r3⟩ := root_of n cells y.1
    obtain ⟨q, q1, q2, q3⟩ := root_of n cells x.1
    have u1 := V.unique (by omega) x2 r2 rx (by rw [r3, c1])
    have u2 := V.unique (by omega) y2 q2 ry (by rw [q3, c2])
    omega
theorem mm_small (V : Valid a n m cells) {T : List (Nat × Nat)} (h : ∀ x ∈ T, x ∈ brd n cells) : Sml (T.map (mm cells)) := fun t ht => by
  obtain ⟨x, hx, rfl⟩ := List.mem_map.mp ht
  obtain ⟨h1, h2, h3, h4⟩ := mem_brd.mp (h x hx)
  have := V.hm
  have := V.hn
  have c1 := V.lt _ (ca_mem h2)
  have il := inner_lt (n := n) h1
  have c2 := V.lt _ (ca_mem (cells := cells) (c := x.1) (by omega))
  unfold mm
  dsimp only
  constructor
  · split <;> omega
  · split <;> omega
theorem mm_nodup (V : Valid a n m cells) : ∀ {T : List (Nat × Nat)}, (∀ x ∈ T, x ∈ brd n cells) → T.Nodup → (T.map (mm cells)).Nodup := fun {T} h nd => by
  refine List.pairwise_map.mpr (nd.imp_of_mem fun {x y} hx hy ne z => ne (mm_inj V (h x hx) (h y hy) z))
/-- those beside a land -/
def lowr (L : List (Nat × Nat)) (l : Nat) : List Nat := (L.filter fun x => decide (x.2 = l)).map (·.1)
def uppr (L : List (Nat × Nat)) (l : Nat) : List Nat := (L.filter fun x => decide (x.1 = l)).map (·.2)
end
end S89

namespace S89
open PySem PD PySem.W
section
variable {a n m : Nat} {cells : List Nat}
theorem rows_take (V : Valid a n m cells) : ∀ k, k ≤ a → ((List.range k).map (armOf n cells)).flatten = (cells.drop 1).take (k * n)
  | 0, _ => by simp
  | k + 1, h => by
    rw [List.range_succ, List.map_append, List.flatten_append, rows_take V k (by omega), Nat.add_mul, Nat.one_mul, List.take_add, List.drop_drop]
    show _ ++ [armOf n cells k].flatten = _
    unfold armOf
    simp
theorem rows_join (V : Valid a n m cells) : ca cells 0 :: ((List.range a).map (armOf n cells)).flatten = cells := by
  rw [rows_take V a (Nat.le_refl _)]
  have h := V.len
  cases cells with
  | nil => simp at h; omega
  | cons x r =>
    have : r.length = a * n := by simp at h; omega
    show x :: (r.take (a * n)) = x :: r
    rw [← this, List.take_length]

def rws (a n : Nat) (cells : List Nat) : List (List Nat) := (List.range a).map (armOf n cells)
def plc (a n : Nat) (cells : List Nat) : List (List Nat) := (List.range a).map fun k => spo (ca cells 0) 0 (armOf n cells k)
theorem rws_rw (V : Valid a n m cells) : Rw a n (rws a n cells) := ⟨V.ha, V.hn, by unfold rws; simp, fun r hr => by
  unfold rws at hr
  obtain ⟨k, hk, rfl⟩ := List.mem_map.mp hr
  exact armOf_len V (List.mem_range.mp hk)⟩
theorem map_rws (V : Valid a n m cells) : mapOf (ca cells 0) (rws a n cells) = cells := rows_join V
theorem gR_range {f : Nat → List Nat} {k : Nat} (hk : k < a) : gR ((List.range a).map f) k = f k := by
  unfold gR
  rw [List.getD_eq_getElem?_getD, List.getElem?_map, List.getElem?_range hk]
  rfl
theorem zip_range {f g : Nat → List Nat} {q : List Nat × List Nat} (h : q ∈ ((List.range a).map f).zip ((List.range a).map g)) : ∃ k, k < a ∧ q.1 = f k ∧ q.2 = g k := by
  obtain ⟨i, hi, e⟩ := List.getElem_of_mem h
  rw [List.length_zip, List.length_map, List.length_map, List.length_range, Nat.min_self] at hi
  rw [List.getElem_zip] at e
  refine ⟨i, hi, ?_, ?_⟩
  · rw [← e]
    simp
  · rw [← e]
    simp
theorem zip_in {xs ys : List (List Nat)} {k : Nat} (h1 : k < xs.length) (h2 : k < ys.length) : (gR xs k, gR ys k) ∈ xs.zip ys := by
  have h : k < (xs.zip ys).length := by rw [List.length_zip]; omega
  have := List.getElem_mem h
  rw [List.getElem_zip] at this
  unfold gR
  rw [List.getD_eq_getElem?_getD, List.getD_eq_getElem?_getD, List.getElem?_eq_getElem h1, List.getElem?_eq_getElem h2]
  exact this
theorem ords_are (V : Valid a n m cells) : Ords a (ca cells 0) m (ords a n cells) := by
  have R := rws_rw V
  have := R.ords (h := ca cells 0) (m := m) (by rw [map_rws V]; exact V)
  have e : (rws a n cells).map (met (ca cells 0)) = ords a n cells := by
    unfold rws ords
    rw [List.map_map]
    rfl
  rw [e] at this
  exact this
theorem ord_is (V : Valid a n m cells) : Ord a n (ords a n cells) (plc a n cells) := by
  have O := ords_are V
  have hn := V.hn
  have hm := V.hm
  refine ⟨V.ha, V.hn, O.lo, by unfold plc; simp, fun o ho v hv => ?_, fun o ho => ?_, fun p hp => ?_, fun p hp v hv => ?_, fun q hq => ?_⟩
  · obtain ⟨k, hk, rfl⟩ := mem_gR ho
    have := O.lt k (by rw [← O.lo]; exact hk) v hv
    omega
  · unfold ords at ho
    obtain ⟨k, hk, rfl⟩ := List.mem_map.mp ho
    have := met_len (armOf n cells k) (ca cells 0)
    rw [armOf_len V (List.mem_range.mp hk)] at this
    unfold ordOf
    omega
  · unfold plc at hp
    obtain ⟨k, hk, rfl⟩ := List.mem_map.mp hp
    exact spo_up _ _ _
  · unfold plc at hp
    obtain ⟨k, hk, rfl⟩ := List.mem_map.mp hp
    have := (spo_in _ _ _ v hv).2
    rw [armOf_len V (List.mem_range.mp hk)] at this
    omega
  · unfold ords plc at hq
    obtain ⟨k, hk, e1, e2⟩ := zip_range hq
    rw [e1, e2, spo_len]
    rfl
theorem Rw.of {h : Nat} {os ps : List (List Nat)} (O : Ord a n os ps) : Rw a n (rowsN n h os ps) := ⟨O.ha, O.hn, rowsN_len O, fun r hr => rowsN_mem hr⟩
/-- the map itself, back from its orders -/
theorem from_own (V : Valid a n m cells) : p_from_orders [iN n, iN (ca cells 0), .tuple ((ords a n cells).map tN), .tuple ((plc a n cells).map tN)] = some (ch a cells) := by
  have O := ord_is V
  have er : rowsN n (ca cells 0) (ords a n cells) (plc a n cells) = rws a n cells := by
    unfold rowsN ords plc rws
    refine List.ext_getElem (by simp) fun i h1 h2 => ?_
    have hi : i < a := by simpa using h2
    rw [List.getElem_map, List.getElem_zip, List.getElem_map, List.getElem_map, List.getElem_map]
    simp only [List.getElem_range]
    exact placed_back (armOf_len V hi)
  have hh : ca cells 0 ≤ 4 := by
    have := V.lt _ (ca_mem V.len_lt.1)
    have := V.hm
    have := V.hn
    omega
  have e := from_orders (h := ca cells 0) O hh (b := true) (by rw [er]; show p_is_chart [ch a (mapOf (ca cells 0) (rws a n cells))] = _; rw [map_rws V]; exact V.chart)
  rw [er] at e
  have al : ((ords a n cells).zip (rws a n cells)).all (fun q => decide (met (ca cells 0) q.2 = q.1)) = true := by
    rw [List.all_eq_true]
    intro q hq
    unfold ords rws at hq
    obtain ⟨k, hk, e1, e2⟩ := zip_range hq
    rw [e1, e2]
    exact decide_eq_true rfl
  rw [al] at e
  rw [e]
  show some (ch a (mapOf (ca cells 0) (rws a n cells))) = _
  rw [map_rws V]
/-- no map, where an arm names the hub's land -/
theorem from_none {h k : Nat} {os ps : List (List Nat)} (O : Ord a n os ps) (hh : h ≤ 4) (hk : k < a) (hm : h ∈ gR os k) : p_from_orders [iN n, iN h, .tuple (os.map tN), .tuple (ps.map tN)] = some .none := by
  have R := Rw.of (h := h) O
  obtain ⟨b, qb, _⟩ := chart_eval (R.shp (h := h))
  have e := from_orders (h := h) O hh (b := b) qb
  rw [e]
  cases g : ((os.zip (rowsN n h os ps)).all fun q => decide (met h q.2 = q.1)) with
  | false => rw [Bool.and_false]; rfl
  | true =>
    have q := List.all_eq_true.mp g _ (zip_in (xs := os) (ys := rowsN n h os ps) (by rw [O.lo]; exact hk) (by rw [R.len]; exact hk))
    have q := of_decide_eq_true q
    dsimp only at q
    have nc := R.no_chart (h := h) hk (by rw [q]; exact hm)
    have : b = false := by
      have z := qb.symm.trans nc
      cases z
      rfl
    rw [this]
    rfl
/-- the lands of each arm the other way round -/
def trn (os : List (List Nat)) : List (List Nat) := os.map List.reverse
theorem gR_trn {os : List (List Nat)} {k : Nat} (hk : k < os.length) : gR (trn os) k = (gR os k).reverse := gR_map hk
theorem trn_ord {os ps : List (List Nat)} (O : Ord a n os ps) : Ord a n (trn os) ps := by
  have el : (trn os).length = a := by unfold trn; rw [List.length_map, O.lo]
  refine ⟨O.ha, O.hn, el, O.lp, fun o ho v hv => ?_, fun o ho => ?_, O.up, O.lt, fun q hq => ?_⟩
  · unfold trn at ho
    obtain ⟨o', ho', rfl⟩ := List.mem_map.mp ho
    exact O.land o' ho' v (List.mem_reverse.mp hv)
  · unfold trn at ho
    obtain ⟨o', ho', rfl⟩ := List.mem_map.mp ho
    rw [List.length_reverse]
    exact O.short o' ho'
  · obtain ⟨i, hi, e⟩ := List.getElem_of_mem hq
    rw [List.length_zip] at hi
    rw [List.getElem_zip] at e
    have i1 : i < os.length := by rw [el] at hi; rw [O.lo]; omega
    have i2 : i < ps.length := by omega
    have := O.eq (gR os i, gR ps i) (zip_in i1 i2)
    rw [← e]
    show ((trn os)[i]'(by omega)).length = ps[i].length
    have e1 : (trn os)[i]'(by omega) = (gR os i).reverse := by
      rw [← gR_trn i1]
      unfold gR
      rw [List.getD_eq_getElem?_getD, List.getElem?_eq_getElem (by omega)]
      rfl
    have e2 : ps[i] = gR ps i := by
      unfold gR
      rw [List.getD_eq_getElem?_getD, List.getElem?_eq_getElem i2]
      rfl
    rw [e1, e2, List.length_reverse]
    exact this
theorem from_turned (V : Valid a n m cells) : ∃ c2, p_from_orders [iN n, iN (ca cells 0), .tuple ((trn (ords a n cells)).map tN), .tuple ((plc a n cells).map tN)] = some (ch a c2) ∧ p_orders [ch a c2] = some (.tuple ((trn (ords a n cells)).map tN)) := by
  have O := trn_ord (ord_is V)
  have D := ords_are V
  obtain ⟨h, eh⟩ : ∃ z, z = ca cells 0 := ⟨_, rfl⟩
  obtain ⟨ps, eps⟩ : ∃ z, z = plc a n cells := ⟨_, rfl⟩
  obtain ⟨os, eos⟩ : ∃ z, z = ords a n cells := ⟨_, rfl⟩
  rw [← eps, ← eos] at O ⊢
  rw [← eos, ← eh] at D
  rw [← eh]
  have hh : h ≤ 4 := by
    have := D.hh
    have := V.hm
    have := V.hn
    omega
  have R := Rw.of (h := h) O
  have D' : Ords a h m (trn os) := by
    have g : ∀ k, k < a → gR (trn os) k = (gR os k).reverse := fun k hk => gR_trn (by rw [D.lo]; exact hk)
    refine ⟨O.lo, D.hh, fun k hk => ?_, fun k l v hk hl h1 h2 => ?_, fun v hv => ?_, fun k hk v hv => ?_⟩
    · rw [g k hk, List.nodup_cons, List.mem_reverse]
      have := List.nodup_cons.mp (D.nd k hk)
      refine ⟨this.1, ?_⟩
      exact (List.reverse_perm _).nodup_iff.mpr this.2
    · rw [g k hk, List.mem_reverse] at h1
      rw [g l hl, List.mem_reverse] at h2
      exact D.dj k l v hk hl h1 h2
    · rcases D.cov v hv with z | ⟨k, hk, z⟩
      · exact .inl z
      · exact .inr ⟨k, hk, by rw [g k hk, List.mem_reverse]; exact z⟩
    · rw [g k hk, List.mem_reverse] at hv
      exact D.lt k hk v hv
  have met_k : ∀ k, k < a → met h (gR (rowsN n h (trn os) ps) k) = gR (trn os) k := fun k hk => by
    have k1 : k < (trn os).length := by rw [O.lo]; exact hk
    have k2 : k < ps.length := by rw [O.lp]; exact hk
    have er : gR (rowsN n h (trn os) ps) k = placedN n h (gR (trn os) k) (gR ps k) := by
      unfold rowsN gR
      rw [List.getD_eq_getElem?_getD, List.getElem?_map, List.getElem?_eq_getElem (by rw [List.length_zip]; omega), List.getElem_zip, List.getD_eq_getElem?_getD, List.getD_eq_getElem?_getD, List.getElem?_eq_getElem k1, List.getElem?_eq_getElem k2]
      rfl
    rw [er]
    have lp := O.eq _ (zip_in k1 k2)
    exact met_all (O.up _ (gR_mem k2)) lp.symm (D'.nd k hk) (O.lt _ (gR_mem k2))
  have V' := R.valid V.hm D' met_k
  have e := from_orders (h := h) O hh (b := true) V'.chart
  have al : ((trn os).zip (rowsN n h (trn os) ps)).all (fun q => decide (met h q.2 = q.1)) = true := by
    rw [List.all_eq_true]
    intro q hq
    obtain ⟨i, hi, eq⟩ := List.getElem_of_mem hq
    rw [List.length_zip] at hi
    have i1 : i < (trn os).length := by omega
    have i2 : i < (rowsN n h (trn os) ps).length := by omega
    have := met_k i (by rw [← O.lo]; exact i1)
    have e1 : gR (trn os) i = (trn os)[i] := by unfold gR; rw [List.getD_eq_getElem?_getD, List.getElem?_eq_getElem i1]; rfl
    have e2 : gR (rowsN n h (trn os) ps) i = (rowsN n h (trn os) ps)[i] := by unfold gR; rw [List.getD_eq_getElem?_getD, List.getElem?_eq_getElem i2]; rfl
    rw [← eq, List.getElem_zip]
    dsimp only
    rw [← e1, ← e2]
    exact decide_eq_true this
  rw [al] at e
  refine ⟨mapOf h (rowsN n h (trn os) ps), e, ?_⟩
  rw [orders V']
  have eo : ords a n (mapOf h (rowsN n h (trn os) ps)) = trn os := by
    unfold ords
    refine List.ext_getElem (by simp [O.lo]) fun i h1 h2 => ?_
    rw [List.getElem_map, List.getElem_range]
    have hi : i < a := by rw [← O.lo]; exact h2
    have e1 : gR (trn os) i = (trn os)[i] := by unfold gR; rw [List.getD_eq_getElem?_getD, List.getElem?_eq_getElem h2]; rfl
    rw [← e1, ← met_k i hi]
    unfold ordOf
    have ar : armOf n (mapOf h (rowsN n h (trn os) ps)) i = gR (rowsN n h (trn os) ps) i := by
      refine List.ext_getElem? fun j => ?_
      by_cases hj : j < n
      · rw [armOf_get V' hi hj, R.at_ hi hj, List.getD_eq_getElem?_getD, List.getElem?_eq_getElem (by rw [R.glen hi]; exact hj)]
        rfl
      · rw [List.getElem?_eq_none (by rw [armOf_len V' hi]; omega), List.getElem?_eq_none (by rw [R.glen hi]; omega)]
    rw [ar]
    rfl
  rw [eo]
end
end S89

namespace S89
open PySem PD PySem.W
theorem enumD_rows (r : List Nat) : enumD (r.map iN) = (List.range r.length).map fun i => .tuple [iN i, iN (r.getD i 0)] := by
  unfold enumD
  refine List.ext_getElem (by simp) fun i h1 h2 => ?_
  have hi : i < r.length := by simpa using h2
  rw [List.getElem_mapIdx, List.getElem_map, List.getElem_map, List.getElem_range, List.getD_eq_getElem?_getD, List.getElem?_eq_getElem hi]
  rfl
theorem spo_filter (h : Nat) (r : List Nat) : (List.range r.length).filter (fun i => !decide (r.getD i 0 = (h :: r).getD i 0)) = spo h 0 r := by
  refine asc_eq (List.Pairwise.sublist List.filter_sublist List.pairwise_lt_range) (spo_up r h 0) fun v => ?_
  rw [List.mem_filter, List.mem_range, mem_spo]
  constructor
  · rintro ⟨h1, h2⟩
    exact ⟨v, by omega, h1, by simpa using h2⟩
  · rintro ⟨i, e, h1, h2⟩
    have : i = v := by omega
    subst this
    exact ⟨h1, by simpa using h2⟩
theorem places_on {h : Nat} {r : List Nat} (hl : r.length < 1000) : p_places_on [iN h, tN r] = some (tN (spo h 0 r)) := by
  obtain ⟨R, hR⟩ : ∃ z, z = r.map iN := ⟨_, rfl⟩
  have Rl : R.length = r.length := by rw [hR, List.length_map]
  obtain ⟨Bf, hBf⟩ : ∃ z, z = PyData.tuple (iN h :: R) := ⟨_, rfl⟩
  have ad : fAdd (.tuple [iN h]) (.tuple R) = some Bf := by
    show (if 1 + R.length ≤ 1000000 then some (PyData.tuple ([iN h] ++ R)) else none) = _
    rw [if_pos (by omega), hBf]
    rfl
  have ixB : ∀ i, i < r.length → fIx Bf (iN i) = some (iN ((h :: r).getD i 0)) := fun i hi => by
    rw [hBf, hR]
    refine (ix_map (f := iN) (xs := h :: r) (j := i) ?_).2
    rw [List.getD_eq_getElem?_getD, List.getElem?_eq_getElem (by rw [List.length_cons]; omega)]
    rfl
  have c1 : c1_places_on [.dat (iN h), .dat (.tuple R), .dat Bf, .un, .un] = some ((spo h 0 r).map iN, [.dat (iN h), .dat (.tuple R), .dat Bf, .un, .un]) := by
    rw [← spo_filter]
    refine sComp_on (List.range r.length) (fun i => .tuple [iN i, iN (r.getD i 0)]) iN _ ?_ rfl (by simp; omega) rfl fun i hi => ⟨_, rfl, rfl, ?_, ?_⟩
    · rw [← enumD_rows, ← hR]
      rfl
    · have q := ixB i (List.mem_range.mp hi)
      generalize r.getD i 0 = x
      generalize (h :: r).getD i 0 = y at q ⊢
      have e : (decide ((x : Int) = (y : Int))) = decide (x = y) := by
        by_cases z : x = y
        · simp [z]
        · have : ¬ (x : Int) = (y : Int) := by omega
          simp [z, this]
      simp [bodyP, bodyI, startE, startI, sSeq, sRet, sAsg, sExp, sIfS, sNx, sV, sB, sC, PD.s2, toT, sTr, truth, bne_dec, sChain, sAnd, sOr, sNot, sIf, tAnd', tOr', tNot', sNil, sCons, sCall, allD, sN, allR, PD.res, sTup, sLst, sFr, gN, gT, gsNil, gsCons, sIsi, tyName, isSub, sOrE, sM1, sM1T, fAdd_int, fSub, fLe, fLt, fGt, fGe, eq_int, ne_int, cont?, setCont, List.replicate, fLen, sOwn, sApp, wipeE, q, e]
    · intro _
      simp [bodyP, bodyI, startE, startI, sSeq, sRet, sAsg, sExp, sIfS, sNx, sV, sB, sC, PD.s2, toT, sTr, truth, bne_dec, sChain, sAnd, sOr, sNot, sIf, tAnd', tOr', tNot', sNil, sCons, sCall, allD, sN, allR, PD.res, sTup, sLst, sFr, gN, gT, gsNil, gsCons, sIsi, tyName, isSub, sOrE, sM1, sM1T, fAdd_int, fSub, fLe, fLt, fGt, fGe, eq_int, ne_int, cont?, setCont, List.replicate, fLen, sOwn, sApp, wipeE]
  obtain ⟨S, hS⟩ : ∃ z, z = (spo h 0 r).map iN := ⟨_, rfl⟩
  rw [← hS] at c1
  show p_places_on [iN h, .tuple (r.map iN)] = some (.tuple ((spo h 0 r).map iN))
  rw [← hR, ← hS]
  unfold p_places_on g_places_on
  simp [bodyP, bodyI, startE, startI, sSeq, sRet, sAsg, sExp, sIfS, sNx, sV, sB, sC, PD.s2, toT, sTr, truth, bne_dec, sChain, sAnd, sOr, sNot, sIf, tAnd', tOr', tNot', sNil, sCons, sCall, allD, sN, allR, PD.res, sTup, sLst, sFr, gN, gT, gsNil, gsCons, sIsi, tyName, isSub, sOrE, sM1, sM1T, fAdd_int, fSub, fLe, fLt, fGt, fGe, eq_int, ne_int, cont?, setCont, List.replicate, fLen, sOwn, sApp, ad, c1, fTupOf]
section
variable {a n m : Nat} {cells : List Nat}
theorem border_places (V : Valid a n m cells) : p_border_places [ch a cells] = some (.tuple ((plc a n cells).map tN)) := by
  have ha := V.ha
  have hn := V.hn
  have er := arm_rows V
  have h0 := V.ix0
  have hk := V.check
  obtain ⟨C, hC⟩ : ∃ Z, Z = tN cells := ⟨_, rfl⟩
  obtain ⟨Ch, hCh⟩ : ∃ Z, Z = ch a cells := ⟨_, rfl⟩
  have hix : fIx Ch (.int 1) = some C := by rw [hCh, hC]; rfl
  rw [← hCh] at er hk ⊢
  rw [← hC] at h0
  have e0 : (plc a n cells).map tN = (List.range a).map fun k => tN (spo (ca cells 0) 0 (armOf n cells k)) := by unfold plc; rw [List.map_map]; rfl
  rw [e0]
  obtain ⟨A, hA⟩ : ∃ Z, Z = (List.range a).map fun k => tN (armOf n cells k) := ⟨_, rfl⟩
  have c1 : c1_border_places [.dat Ch, .un] = some ((List.range a).map (fun k => tN (spo (ca cells 0) 0 (armOf n cells k))), [.dat Ch, .un]) := by
    refine sComp_all (List.range a) (fun k => tN (armOf n cells k)) _ (by rw [← hA] at er ⊢; simp [bodyP, bodyI, startE, startI, sSeq, sRet, sAsg, sExp, sIfS, sNx, sV, sB, sC, PD.s2, toT, sTr, truth, bne_dec, sChain, sAnd, sOr, sNot, sIf, tAnd', tOr', tNot', sNil, sCons, sCall, allD, sN, allR, PD.res, sTup, sLst, sFr, gN, gT, gsNil, gsCons, sIsi, tyName, isSub, sOrE, sM1, sM1T, fAdd_int, fSub, fLe, fLt, fGt, fGe, eq_int, ne_int, cont?, setCont, List.replicate, fLen, sOwn, sApp, sSq, er]) rfl (by simp; omega) rfl fun k hk => ⟨_, rfl, rfl, ?_⟩
    have hk := List.mem_range.mp hk
    have lm := places_on (h := ca cells 0) (r := armOf n cells k) (by rw [armOf_len V hk]; omega)
    obtain ⟨W, hW⟩ : ∃ Z, Z = tN (armOf n cells k) := ⟨_, rfl⟩
    obtain ⟨U, hU⟩ : ∃ Z, Z = tN (spo (ca cells 0) 0 (armOf n cells k)) := ⟨_, rfl⟩
    rw [← hW, ← hU] at lm
    rw [← hW, ← hU]
    simp [bodyP, bodyI, startE, startI, sSeq, sRet, sAsg, sExp, sIfS, sNx, sV, sB, sC, PD.s2, toT, sTr, truth, bne_dec, sChain, sAnd, sOr, sNot, sIf, tAnd', tOr', tNot', sNil, sCons, sCall, allD, sN, allR, PD.res, sTup, sLst, sFr, gN, gT, gsNil, gsCons, sIsi, tyName, isSub, sOrE, sM1, sM1T, fAdd_int, fSub, fLe, fLt, fGt, fGe, eq_int, ne_int, cont?, setCont, List.replicate, fLen, sOwn, sApp, wipeE, hix, h0, lm]
  obtain ⟨Z, hZ⟩ : ∃ Z, Z = (List.range a).map (fun k => tN (spo (ca cells 0) 0 (armOf n cells k))) := ⟨_, rfl⟩
  rw [← hZ] at c1 ⊢
  unfold p_border_places g_border_places
  simp [bodyP, bodyI, startE, startI, sSeq, sRet, sAsg, sExp, sIfS, sNx, sV, sB, sC, PD.s2, toT, sTr, truth, bne_dec, sChain, sAnd, sOr, sNot, sIf, tAnd', tOr', tNot', sNil, sCons, sCall, allD, sN, allR, PD.res, sTup, sLst, sFr, gN, gT, gsNil, gsCons, sIsi, tyName, isSub, sOrE, sM1, sM1T, fAdd_int, fSub, fLe, fLt, fGt, fGe, eq_int, ne_int, cont?, setCont, List.replicate, fLen, sOwn, sApp, hk, c1, fTupOf]
end
end S89

namespace S89
open PySem PD PySem.W
/-- the places of a row of orders and places -/
theorem spo_placed {n h : Nat} {o p : List Nat} (hp : p.Pairwise (· < ·)) (hl : p.length = o.length) (nd : (h :: o).Nodup) (lt : ∀ x ∈ p, x < n) : spo h 0 (placedN n h o p) = p := by
  refine asc_eq (spo_up _ _ _) hp fun v => ?_
  have key : ∀ i, i < n → ((placedN n h o p).getD i 0 ≠ (h :: placedN n h o p).getD i 0 ↔ i ∈ p) := fun i hi => by
    have e1 : (placedN n h o p).getD i 0 = curL h o p (i + 1) := by
      unfold placedN
      rw [List.getD_eq_getElem?_getD, List.getElem?_map, List.getElem?_range hi]
      rfl
    have e2 : (h :: placedN n h o p).getD i 0 = curL h o p i := by
      cases i with
      | zero => rfl
      | succ i =>
        show (placedN n h o p).getD i 0 = _
        unfold placedN
        rw [List.getD_eq_getElem?_getD, List.getElem?_map, List.getElem?_range (by omega)]
        rfl
    rw [e1, e2]
    by_cases hi' : i ∈ p
    · refine ⟨fun _ => hi', fun _ => ?_⟩
      rw [cur_at hp hl (i + 1), cur_at hp hl i, count_next hp, if_pos hi']
      have lt : (p.countP fun x => decide (x < i)) < o.length := by
        rw [← hl, ← idx_up hp hi']
        exact List.idxOf_lt_length_of_mem hi'
      generalize (p.countP fun x => decide (x < i)) = c at lt ⊢
      have l1 : c + 1 < (h :: o).length := by rw [List.length_cons]; omega
      have l0 : c < (h :: o).length := by omega
      rw [List.getD_eq_getElem?_getD, List.getD_eq_getElem?_getD, List.getElem?_eq_getElem l1, List.getElem?_eq_getElem l0]
      intro z
      exact (List.pairwise_iff_getElem.mp nd c (c + 1) l0 l1 (Nat.lt_succ_self c)) (Eq.symm z)
    · refine ⟨fun z => absurd ?_ z, fun z => absurd z hi'⟩
      rw [curL, if_neg hi']
  rw [mem_spo]
  constructor
  · rintro ⟨i, e, h1, h2⟩
    rw [placedN_len] at h1
    have : i = v := by omega
    subst this
    exact (key i h1).mp h2
  · intro hv
    have := lt v hv
    exact ⟨v, by omega, by rw [placedN_len]; exact this, (key v this).mpr hv⟩
section
variable {a n m h : Nat} {os ps : List (List Nat)}
theorem gR_rows (O : Ord a n os ps) {k : Nat} (hk : k < a) : gR (rowsN n h os ps) k = placedN n h (gR os k) (gR ps k) := by
  have k1 : k < os.length := by rw [O.lo]; exact hk
  have k2 : k < ps.length := by rw [O.lp]; exact hk
  unfold rowsN gR
  rw [List.getD_eq_getElem?_getD, List.getElem?_map, List.getElem?_eq_getElem (by rw [List.length_zip]; omega), List.getElem_zip, List.getD_eq_getElem?_getD, List.getD_eq_getElem?_getD, List.getElem?_eq_getElem k1, List.getElem?_eq_getElem k2]
  rfl
theorem ext_gR {xs ys : List (List Nat)} (hl : xs.length = ys.length) (h : ∀ k, k < xs.length → gR xs k = gR ys k) : xs = ys := by
  refine List.ext_getElem hl fun i h1 h2 => ?_
  have := h i h1
  unfold gR at this
  rw [List.getD_eq_getElem?_getD, List.getD_eq_getElem?_getD, List.getElem?_eq_getElem h1, List.getElem?_eq_getElem h2] at this
  exact this
/-- orders of a map's kind, and any places for them: a map, and they are its own -/
theorem from_valid (O : Ord a n os ps) (D : Ords a h m os) (hm : 2 ≤ m ∧ m ≤ n + 1) :
    p_from_orders [iN n, iN h, .tuple (os.map tN), .tuple (ps.map tN)] = some (ch a (mapOf h (rowsN n h os ps))) ∧ Valid a n m (mapOf h (rowsN n h os ps)) ∧
      ords a n (mapOf h (rowsN n h os ps)) = os ∧ plc a n (mapOf h (rowsN n h os ps)) = ps := by
  have hh : h ≤ 4 := by
    have := D.hh
    have := O.hn
    omega
  have R := Rw.of (h := h) O
  have facts : ∀ k, k < a → (gR ps k).Pairwise (· < ·) ∧ (gR ps k).length = (gR os k).length ∧ ∀ x ∈ gR ps k, x < n := fun k hk => by
    have k1 : k < os.length := by rw [O.lo]; exact hk
    have k2 : k < ps.length := by rw [O.lp]; exact hk
    exact ⟨O.up _ (gR_mem k2), (O.eq _ (zip_in k1 k2)).symm, O.lt _ (gR_mem k2)⟩
  have met_k : ∀ k, k < a → met h (gR (rowsN n h os ps) k) = gR os k := fun k hk => by
    obtain ⟨f1, f2, f3⟩ := facts k hk
    rw [gR_rows O hk]
    exact met_all f1 f2 (D.nd k hk) f3
  have V := R.valid hm D met_k
  have e := from_orders (h := h) O hh (b := true) V.chart
  have al : (os.zip (rowsN n h os ps)).all (fun q => decide (met h q.2 = q.1)) = true := by
    rw [List.all_eq_true]
    intro q hq
    obtain ⟨i, hi, eq⟩ := List.getElem_of_mem hq
    rw [List.length_zip] at hi
    have i1 : i < os.length := by omega
    have i2 : i < (rowsN n h os ps).length := by omega
    have := met_k i (by rw [← O.lo]; exact i1)
    have e1 : gR os i = os[i] := by unfold gR; rw [List.getD_eq_getElem?_getD, List.getElem?_eq_getElem i1]; rfl
    have e2 : gR (rowsN n h os ps) i = (rowsN n h os ps)[i] := by unfold gR; rw [List.getD_eq_getElem?_getD, List.getElem?_eq_getElem i2]; rfl
    rw [← eq, List.getElem_zip]
    dsimp only
    rw [← e1, ← e2]
    exact decide_eq_true this
  rw [al] at e
  have arm : ∀ i, i < a → armOf n (mapOf h (rowsN n h os ps)) i = gR (rowsN n h os ps) i := fun i hi => by
    refine List.ext_getElem? fun j => ?_
    by_cases hj : j < n
    · rw [armOf_get V hi hj, R.at_ hi hj, List.getD_eq_getElem?_getD, List.getElem?_eq_getElem (by rw [R.glen hi]; exact hj)]
      rfl
    · rw [List.getElem?_eq_none (by rw [armOf_len V hi]; omega), List.getElem?_eq_none (by rw [R.glen hi]; omega)]
  refine ⟨e, V, ?_, ?_⟩
  · unfold ords
    refine ext_gR (by simp [O.lo]) fun k hk => ?_
    have hk : k < a := by simpa using hk
    rw [gR_range hk, ← met_k k hk]
    unfold ordOf
    rw [arm k hk]
    rfl
  · unfold plc
    refine ext_gR (by simp [O.lp]) fun k hk => ?_
    have hk : k < a := by simpa using hk
    obtain ⟨f1, f2, f3⟩ := facts k hk
    rw [gR_range hk, arm k hk, gR_rows O hk]
    exact spo_placed f1 f2 (D.nd k hk) f3
/-- the arms the other way round -/
theorem gR_rev {xs : List (List Nat)} {k : Nat} (hk : k < xs.length) : gR xs.reverse k = gR xs (xs.length - 1 - k) := by
  unfold gR
  rw [List.getD_eq_getElem?_getD, List.getD_eq_getElem?_getD, List.getElem?_reverse hk]
theorem ords_rev (D : Ords a h m os) : Ords a h m os.reverse := by
  have g : ∀ k, k < a → gR os.reverse k = gR os (a - 1 - k) := fun k hk => by rw [gR_rev (by rw [D.lo]; exact hk), D.lo]
  refine ⟨by rw [List.length_reverse, D.lo], D.hh, fun k hk => ?_, fun k l v hk hl h1 h2 => ?_, fun v hv => ?_, fun k hk v hv => ?_⟩
  · rw [g k hk]
    exact D.nd _ (by omega)
  · rw [g k hk] at h1
    rw [g l hl] at h2
    have := D.dj _ _ v (by omega) (by omega) h1 h2
    omega
  · rcases D.cov v hv with z | ⟨k, hk, z⟩
    · exact .inl z
    · refine .inr ⟨a - 1 - k, by omega, ?_⟩
      rw [g _ (by omega), show a - 1 - (a - 1 - k) = k by omega]
      exact z
  · rw [g k hk] at hv
    exact D.lt _ (by omega) v hv
theorem ord_rev (O : Ord a n os ps) : Ord a n os.reverse ps.reverse := by
  refine ⟨O.ha, O.hn, by rw [List.length_reverse, O.lo], by rw [List.length_reverse, O.lp], fun o ho => O.land o (List.mem_reverse.mp ho), fun o ho => O.short o (List.mem_reverse.mp ho), fun p hp => O.up p (List.mem_reverse.mp hp), fun p hp => O.lt p (List.mem_reverse.mp hp), fun q hq => ?_⟩
  obtain ⟨i, hi, e⟩ := List.getElem_of_mem hq
  rw [List.length_zip, List.length_reverse, List.length_reverse, O.lo, O.lp, Nat.min_self] at hi
  rw [List.getElem_zip, List.getElem_reverse, List.getElem_reverse] at e
  have := O.eq (gR os (a - 1 - i), gR ps (a - 1 - i)) (zip_in (by rw [O.lo]; omega) (by rw [O.lp]; omega))
  rw [← e]
  dsimp only
  unfold gR at this
  rw [List.getD_eq_getElem?_getD, List.getD_eq_getElem?_getD, List.getElem?_eq_getElem (by rw [O.lo]; omega), List.getElem?_eq_getElem (by rw [O.lp]; omega)] at this
  have l1 := O.lo
  have l2 := O.lp
  simp only [l1, l2]
  exact this
end
end S89

namespace S89
open PySem PD
section
variable {a n m : Nat} {cells : List Nat}
theorem land_areas (V : Valid a n m cells) : p_land_areas [tN cells] = some (tN ((List.range m).map fun v => cells.count v)) := by
  have hlen := V.len_lt
  have hm := V.hm
  have hn := V.hn
  have ne : cells ≠ [] := fun z => by rw [z] at hlen; simp at hlen
  have hmx : fMax [tN cells] = some (iN (m - 1)) := by rw [fMax_tN ne, V.maxN]
  have hm1 : ((m - 1 : Nat) : Int) + 1 = (m : Nat) := by omega
  have q : ∀ v, fCountT (tN cells) (iN v) = some (iN (cells.count v)) := fun v => fCountT_nat cells v
  obtain ⟨C, hC⟩ : ∃ Z, Z = cells.map iN := ⟨_, rfl⟩
  show p_land_areas [.tuple (cells.map iN)] = _
  change fMax [.tuple (cells.map iN)] = _ at hmx
  change ∀ v, fCountT (.tuple (cells.map iN)) (iN v) = _ at q
  rw [← hC] at hmx q ⊢
  have c1 : c1_land_areas [.dat (.tuple C), .un] = some ((List.range m).map (fun v => iN (cells.count v)), [.dat (.tuple C), .un]) := by
    refine sComp_all (List.range m) iN _ (sRg1_small (n := m) (by simp [bodyP, bodyI, startE, startI, sSeq, sRet, sAsg, sExp, sIfS, sNx, sV, sB, sC, PD.s2, toT, sTr, truth, bne_dec, sChain, sAnd, sOr, sNot, sIf, tAnd', tOr', tNot', sNil, sCons, sCall, allD, sN, allR, PD.res, sTup, sLst, sFr, gN, gT, gsNil, gsCons, sIsi, tyName, isSub, sOrE, sM1, sM1T, fAdd_int, fSub, fLe, fLt, fGt, fGe, eq_int, ne_int, cont?, setCont, List.replicate, fLen, sOwn, sApp, hmx, hm1]) (by omega)) rfl (by simp; omega) rfl fun v hv => ⟨_, rfl, rfl, ?_⟩
    simp [bodyP, bodyI, startE, startI, sSeq, sRet, sAsg, sExp, sIfS, sNx, sV, sB, sC, PD.s2, toT, sTr, truth, bne_dec, sChain, sAnd, sOr, sNot, sIf, tAnd', tOr', tNot', sNil, sCons, sCall, allD, sN, allR, PD.res, sTup, sLst, sFr, gN, gT, gsNil, gsCons, sIsi, tyName, isSub, sOrE, sM1, sM1T, fAdd_int, fSub, fLe, fLt, fGt, fGe, eq_int, ne_int, cont?, setCont, List.replicate, fLen, sOwn, sApp, wipeE, q v]
  have e : tN ((List.range m).map fun v => cells.count v) = .tuple ((List.range m).map (fun v => iN (cells.count v))) := by
    show PyData.tuple _ = _
    rw [List.map_map]
    rfl
  rw [e]
  obtain ⟨Z, hZ⟩ : ∃ Z, Z = (List.range m).map (fun v => iN (cells.count v)) := ⟨_, rfl⟩
  rw [← hZ] at c1 ⊢
  unfold p_land_areas g_land_areas
  simp [bodyP, bodyI, startE, startI, sSeq, sRet, sAsg, sExp, sIfS, sNx, sV, sB, sC, PD.s2, toT, sTr, truth, bne_dec, sChain, sAnd, sOr, sNot, sIf, tAnd', tOr', tNot', sNil, sCons, sCall, allD, sN, allR, PD.res, sTup, sLst, sFr, gN, gT, gsNil, gsCons, sIsi, tyName, isSub, sOrE, sM1, sM1T, fAdd_int, fSub, fLe, fLt, fGt, fGe, eq_int, ne_int, cont?, setCont, List.replicate, fLen, sOwn, sApp, c1, fTupOf]
theorem areas (V : Valid a n m cells) : p_areas [ch a cells] = some (tN ((List.range m).map fun v => cells.count v)) := by
  have hk := V.check
  have q := land_areas V
  obtain ⟨Ch, hCh⟩ : ∃ Z, Z = ch a cells := ⟨_, rfl⟩
  have hix : fIx Ch (.int 1) = some (tN cells) := by rw [hCh]; rfl
  rw [← hCh] at hk ⊢
  obtain ⟨C, hC⟩ : ∃ Z, Z = tN cells := ⟨_, rfl⟩
  rw [← hC] at hix q
  obtain ⟨Z, hZ⟩ : ∃ Z, Z = tN ((List.range m).map fun v => cells.count v) := ⟨_, rfl⟩
  rw [← hZ] at q ⊢
  unfold p_areas g_areas
  simp [bodyP, bodyI, startE, startI, sSeq, sRet, sAsg, sExp, sIfS, sNx, sV, sB, sC, PD.s2, toT, sTr, truth, bne_dec, sChain, sAnd, sOr, sNot, sIf, tAnd', tOr', tNot', sNil, sCons, sCall, allD, sN, allR, PD.res, sTup, sLst, sFr, gN, gT, gsNil, gsCons, sIsi, tyName, isSub, sOrE, sM1, sM1T, fAdd_int, fSub, fLe, fLt, fGt, fGe, eq_int, ne_int, cont?, setCont, List.replicate, fLen, sOwn, sApp, hk, hix, q]
theorem is_frozen (V : Valid a n m cells) : p_is_frozen [ch a cells] = some (.bool (decide (2 ≤ bare a n cells))) := by
  have e := bare_arms V
  unfold p_is_frozen g_is_frozen
  simp [bodyP, bodyI, startE, startI, sSeq, sRet, sAsg, sExp, sIfS, sNx, sV, sB, sC, PD.s2, toT, sTr, truth, bne_dec, sChain, sAnd, sOr, sNot, sIf, tAnd', tOr', tNot', sNil, sCons, sCall, allD, sN, allR, PD.res, sTup, sLst, sFr, gN, gT, gsNil, gsCons, sIsi, tyName, isSub, sOrE, sM1, sM1T, fAdd_int, fSub, fLe, fLt, fGt, fGe, eq_int, ne_int, cont?, setCont, List.replicate, fLen, sOwn, sApp, e]
  omega
theorem own_lands (V : Valid a n m cells) : p_own_lands [ch a cells] = some (if 2 ≤ bare a n cells then .none else tN (tips a n cells)) := by
  have ha := V.ha
  have hn := V.hn
  have er := arm_rows V
  have hk := V.check
  have hf := is_frozen V
  obtain ⟨Ch, hCh⟩ : ∃ Z, Z = ch a cells := ⟨_, rfl⟩
  rw [← hCh] at er hk hf ⊢
  by_cases hb : 2 ≤ bare a n cells
  · rw [if_pos hb]
    rw [decide_eq_true hb] at hf
    unfold p_own_lands g_own_lands
    simp [bodyP, bodyI, startE, startI, sSeq, sRet, sAsg, sExp, sIfS, sNx, sV, sB, sC, PD.s2, toT, sTr, truth, bne_dec, sChain, sAnd, sOr, sNot, sIf, tAnd', tOr', tNot', sNil, sCons, sCall, allD, sN, allR, PD.res, sTup, sLst, sFr, gN, gT, gsNil, gsCons, sIsi, tyName, isSub, sOrE, sM1, sM1T, fAdd_int, fSub, fLe, fLt, fGt, fGe, eq_int, ne_int, cont?, setCont, List.replicate, fLen, sOwn, sApp, hk, hf]
  · rw [if_neg hb]
    rw [decide_eq_false hb] at hf
    have e0 : tN (tips a n cells) = .tuple ((List.range a).map fun k => iN (ca cells (1 + k * n + (n - 1)))) := by
      show PyData.tuple _ = _
      unfold tips
      rw [List.map_map]
      rfl
    rw [e0]
    obtain ⟨A, hA⟩ : ∃ Z, Z = (List.range a).map fun k => tN (armOf n cells k) := ⟨_, rfl⟩
    have c1 : c1_own_lands [.dat Ch, .un] = some ((List.range a).map (fun k => iN (ca cells (1 + k * n + (n - 1)))), [.dat Ch, .un]) := by
      refine sComp_all (List.range a) (fun k => tN (armOf n cells k)) _ (by rw [← hA] at er ⊢; simp [bodyP, bodyI, startE, startI, sSeq, sRet, sAsg, sExp, sIfS, sNx, sV, sB, sC, PD.s2, toT, sTr, truth, bne_dec, sChain, sAnd, sOr, sNot, sIf, tAnd', tOr', tNot', sNil, sCons, sCall, allD, sN, allR, PD.res, sTup, sLst, sFr, gN, gT, gsNil, gsCons, sIsi, tyName, isSub, sOrE, sM1, sM1T, fAdd_int, fSub, fLe, fLt, fGt, fGe, eq_int, ne_int, cont?, setCont, List.replicate, fLen, sOwn, sApp, sSq, er]) rfl (by simp; omega) rfl fun k hk => ⟨_, rfl, rfl, ?_⟩
      have hk := List.mem_range.mp hk
      have q : fIx (tN (armOf n cells k)) (.int (-1)) = some (iN (ca cells (1 + k * n + (n - 1)))) := by
        refine (ix_end (k := n - 1) (by rw [List.length_map, armOf_len V hk]; omega) ?_).2
        rw [List.getElem?_map, armOf_get V hk (by omega)]
        rfl
      obtain ⟨W, hW⟩ : ∃ Z, Z = tN (armOf n cells k) := ⟨_, rfl⟩
      rw [← hW] at q ⊢
      simp [bodyP, bodyI, startE, startI, sSeq, sRet, sAsg, sExp, sIfS, sNx, sV, sB, sC, PD.s2, toT, sTr, truth, bne_dec, sChain, sAnd, sOr, sNot, sIf, tAnd', tOr', tNot', sNil, sCons, sCall, allD, sN, allR, PD.res, sTup, sLst, sFr, gN, gT, gsNil, gsCons, sIsi, tyName, isSub, sOrE, sM1, sM1T, fAdd_int, fSub, fLe, fLt, fGt, fGe, eq_int, ne_int, cont?, setCont, List.replicate, fLen, sOwn, sApp, wipeE, q]
    obtain ⟨Z, hZ⟩ : ∃ Z, Z = (List.range a).map (fun k => iN (ca cells (1 + k * n + (n - 1)))) := ⟨_, rfl⟩
    rw [← hZ] at c1 ⊢
    unfold p_own_lands g_own_lands
    simp [bodyP, bodyI, startE, startI, sSeq, sRet, sAsg, sExp, sIfS, sNx, sV, sB, sC, PD.s2, toT, sTr, truth, bne_dec, sChain, sAnd, sOr, sNot, sIf, tAnd', tOr', tNot', sNil, sCons, sCall, allD, sN, allR, PD.res, sTup, sLst, sFr, gN, gT, gsNil, gsCons, sIsi, tyName, isSub, sOrE, sM1, sM1T, fAdd_int, fSub, fLe, fLt, fGt, fGe, eq_int, ne_int, cont?, setCont, List.replicate, fLen, sOwn, sApp, hk, hf, c1, fTupOf]
end
end S89

namespace S89
open PySem PD
section
variable {a n m : Nat} {cells : List Nat}
/-- the takings of one cell -/
def cellT (a n : Nat) (cells : List Nat) (c : Nat) : List (Nat × Nat) := if (near cells (nbr a n c)).count (ca cells c) = 1 then ((near cells (nbr a n c)).filter fun l => !decide (l = ca cells c)).map fun l => (l, c) else []
def rdy (a n : Nat) (cells : List Nat) (i : Nat) : List (Nat × Nat) := (List.range i).flatMap (cellT a n cells)
theorem rdy_succ (i : Nat) : rdy a n cells (i + 1) = rdy a n cells i ++ cellT a n cells i := by
  unfold rdy
  rw [List.range_succ, List.flatMap_append]
  simp
theorem nbr_len4 (V : Valid a n m cells) (c : Nat) : (nbr a n c).length ≤ 4 := by
  have := V.ha
  unfold nbr
  split
  · simp; omega
  · split <;> simp
theorem cellT_len (V : Valid a n m cells) (c : Nat) : (cellT a n cells c).length ≤ 4 := by
  unfold cellT
  split
  · rw [List.length_map]
    refine Nat.le_trans (List.length_filter_le _ _) ?_
    unfold near
    rw [List.length_map]
    exact nbr_len4 V c
  · simp
theorem rdy_len (V : Valid a n m cells) (i : Nat) : (rdy a n cells i).length ≤ 4 * i := by
  induction i with
  | zero => simp [rdy]
  | succ i ih =>
    rw [rdy_succ, List.length_append]
    have := cellT_len V i
    omega
theorem ready (V : Valid a n m cells) : ∃ T : List (Nat × Nat), p_ready_takings [.list ((tabN a n cells.length).map tN), tN cells] = some (.list (T.map tkD)) ∧ T.Perm (rdy a n cells cells.length) := by
  have hlen := V.len_lt
  obtain ⟨Tb, hTb⟩ : ∃ Z : PyData, Z = .list ((tabN a n cells.length).map tN) := ⟨_, rfl⟩
  obtain ⟨C, hC⟩ : ∃ Z, Z = tN cells := ⟨_, rfl⟩
  have ixC : ∀ x, x < cells.length → fIx C (iN x) = some (iN (ca cells x)) := fun x hx => by rw [hC]; exact (ix_map (f := iN) (ca_some hx)).2
  let st : Nat → Sl → Sl → Sl → Sl → Ev := fun i x3 x4 x5 x6 => [.dat Tb, .dat C, .own ((rdy a n cells i).map tkD), x3, x4, x5, x6, .un, .un]
  have tl : (tabN a n cells.length).length = cells.length := by unfold tabN; simp
  have : ∃ ρ', l1_ready_takings (st 0 .un .un .un .un) = some (.nx, ρ') ∧ ∃ x3 x4 x5 x6, ρ' = st (enumD ((tabN a n cells.length).map tN)).length x3 x4 x5 x6 := by
    refine sFor_inv (items := enumD ((tabN a n cells.length).map tN)) (ρ1 := st 0 .un .un .un .un) (fun i ρ => ∃ x3 x4 x5 x6, ρ = st i x3 x4 x5 x6) (by subst hTb; rfl) ⟨_, _, _, _, rfl⟩ ?_
    rintro i d ρ hd ⟨x3, x4, x5, x6, rfl⟩
    obtain ⟨d', h1, rfl⟩ := enumD_at hd
    rw [List.getElem?_map, Option.map_eq_some_iff] at h1
    obtain ⟨ps, h2, rfl⟩ := h1
    have hi : i < cells.length := by
      have := (List.getElem?_eq_some_iff.mp h2).1
      omega
    have eps : nbr a n i = ps := by
      unfold tabN at h2
      rw [List.getElem?_map, List.getElem?_range hi] at h2
      exact Option.some.inj h2
    subst eps
    have hl4 := nbr_len4 V i
    obtain ⟨Rd, hRd⟩ : ∃ Z, Z = (rdy a n cells i).map tkD := ⟨_, rfl⟩
    have hRl : Rd.length ≤ 100 := by rw [hRd, List.length_map]; have := rdy_len V i; omega
    have c1 : c1_ready_takings [.dat Tb, .dat C, .own Rd, .dat (.int (i : Nat)), .dat (tN (nbr a n i)), x5, x6, .un, .un] = some ((nbr a n i).map fun p => iN (ca cells p), [.dat Tb, .dat C, .own Rd, .dat (.int (i : Nat)), .dat (tN (nbr a n i)), x5, x6, .un, .un]) := by
      refine sComp_all (nbr a n i) iN _ (by simp [bodyP, bodyI, startE, startI, sSeq, sRet, sAsg, sExp, sIfS, sNx, sV, sB, sC, PD.s2, toT, sTr, truth, bne_dec, sChain, sAnd, sOr, sNot, sIf, tAnd', tOr', tNot', sNil, sCons, sCall, allD, sN, allR, PD.res, sTup, sLst, sFr, gN, gT, gsNil, gsCons, sIsi, tyName, isSub, sOrE, sM1, sM1T, fAdd_int, fSub, fLe, fLt, fGt, fGe, eq_int, ne_int, cont?, setCont, List.replicate, fLen, sOwn, sApp, sSq]) rfl (by omega) rfl fun p hp => ⟨_, rfl, rfl, ?_⟩
      simp [bodyP, bodyI, startE, startI, sSeq, sRet, sAsg, sExp, sIfS, sNx, sV, sB, sC, PD.s2, toT, sTr, truth, bne_dec, sChain, sAnd, sOr, sNot, sIf, tAnd', tOr', tNot', sNil, sCons, sCall, allD, sN, allR, PD.res, sTup, sLst, sFr, gN, gT, gsNil, gsCons, sIsi, tyName, isSub, sOrE, sM1, sM1T, fAdd_int, fSub, fLe, fLt, fGt, fGe, eq_int, ne_int, cont?, setCont, List.replicate, fLen, sOwn, sApp, wipeE, ixC p (V.nbr_lt hi p hp)]
    have en : (nbr a n i).map (fun p => iN (ca cells p)) = (near cells (nbr a n i)).map iN := by unfold near; rw [List.map_map]; rfl
    rw [en] at c1
    have q := can_lose (ca cells i) (near cells (nbr a n i))
    have nl : (near cells (nbr a n i)).length ≤ 4 := by unfold near; rw [List.length_map]; exact hl4
    obtain ⟨Nr, hNr⟩ : ∃ Z, Z = (near cells (nbr a n i)).map iN := ⟨_, rfl⟩
    have hc : cellT a n cells i = if (near cells (nbr a n i)).count (ca cells i) = 1 then ((near cells (nbr a n i)).filter fun l => !decide (l = ca cells i)).map fun l => (l, i) else [] := rfl
    unfold lN at q
    by_cases h : (near cells (nbr a n i)).count (ca cells i) = 1
    · rw [if_pos h] at hc
      have c2 : c2_ready_takings [.dat Tb, .dat C, .own Rd, .dat (.int (i : Nat)), .dat (tN (nbr a n i)), .dat (.list Nr), .dat (iN (ca cells i)), .un, .un] = some (((near cells (nbr a n i)).filter fun l => !decide (l = ca cells i)).map fun l => tkD (l, i), [.dat Tb, .dat C, .own Rd, .dat (.int (i : Nat)), .dat (tN (nbr a n i)), .dat (.list Nr), .dat (iN (ca cells i)), .un, .un]) := by
        refine sComp_on (near cells (nbr a n i)) iN _ _ (by rw [hNr]; simp [bodyP, bodyI, startE, startI, sSeq, sRet, sAsg, sExp, sIfS, sNx, sV, sB, sC, PD.s2, toT, sTr, truth, bne_dec, sChain, sAnd, sOr, sNot, sIf, tAnd', tOr', tNot', sNil, sCons, sCall, allD, sN, allR, PD.res, sTup, sLst, sFr, gN, gT, gsNil, gsCons, sIsi, tyName, isSub, sOrE, sM1, sM1T, fAdd_int, fSub, fLe, fLt, fGt, fGe, eq_int, ne_int, cont?, setCont, List.replicate, fLen, sOwn, sApp, sSq]) rfl (by omega) rfl fun y hy => ⟨_, rfl, rfl, ?_, ?_⟩
        · simp [bodyP, bodyI, startE, startI, sSeq, sRet, sAsg, sExp, sIfS, sNx, sV, sB, sC, PD.s2, toT, sTr, truth, bne_dec, sChain, sAnd, sOr, sNot, sIf, tAnd', tOr', tNot', sNil, sCons, sCall, allD, sN, allR, PD.res, sTup, sLst, sFr, gN, gT, gsNil, gsCons, sIsi, tyName, isSub, sOrE, sM1, sM1T, fAdd_int, fSub, fLe, fLt, fGt, fGe, eq_int, ne_int, cont?, setCont, List.replicate, fLen, sOwn, sApp, wipeE]
          omega
        · simp [bodyP, bodyI, startE, startI, sSeq, sRet, sAsg, sExp, sIfS, sNx, sV, sB, sC, PD.s2, toT, sTr, truth, bne_dec, sChain, sAnd, sOr, sNot, sIf, tAnd', tOr', tNot', sNil, sCons, sCall, allD, sN, allR, PD.res, sTup, sLst, sFr, gN, gT, gsNil, gsCons, sIsi, tyName, isSub, sOrE, sM1, sM1T, fAdd_int, fSub, fLe, fLt, fGt, fGe, eq_int, ne_int, cont?, setCont, List.replicate, fLen, sOwn, sApp, wipeE]
      have e2 : ((near cells (nbr a n i)).filter fun l => !decide (l = ca cells i)).map (fun l => tkD (l, i)) = (cellT a n cells i).map tkD := by
        rw [hc, List.map_map]
        rfl
      rw [e2] at c2
      obtain ⟨X, hX⟩ : ∃ Z, Z = (cellT a n cells i).map tkD := ⟨_, rfl⟩
      have hXl : X.length ≤ 4 := by rw [hX, List.length_map]; exact cellT_len V i
      rw [← hX] at c2
      rw [← hNr] at c1 q
      rw [decide_eq_true h] at q
      refine ⟨[.dat Tb, .dat C, .own Rd, .dat (.int (i : Nat)), .dat (tN (nbr a n i)), x5, x6, .un, .un], .nx, st (i + 1) (.dat (.int (i : Nat))) (.dat (tN (nbr a n i))) (.dat (.list Nr)) (.dat (iN (ca cells i))), by rw [hRd]; rfl, ?_, .inl rfl, _, _, _, _, rfl⟩
      show b1_ready_takings _ = some (Fl.nx, [.dat Tb, .dat C, .own ((rdy a n cells (i + 1)).map tkD), .dat (.int (i : Nat)), .dat (tN (nbr a n i)), .dat (.list Nr), .dat (iN (ca cells i)), .un, .un])
      rw [rdy_succ, List.map_append, ← hRd, ← hX]
      have lim : Rd.length + X.length ≤ 1000000 := by omega
      unfold b1_ready_takings
      simp [bodyP, bodyI, startE, startI, sSeq, sRet, sAsg, sExp, sIfS, sNx, sV, sB, sC, PD.s2, toT, sTr, truth, bne_dec, sChain, sAnd, sOr, sNot, sIf, tAnd', tOr', tNot', sNil, sCons, sCall, allD, sN, allR, PD.res, sTup, sLst, sFr, gN, gT, gsNil, gsCons, sIsi, tyName, isSub, sOrE, sM1, sM1T, fAdd_int, fSub, fLe, fLt, fGt, fGe, eq_int, ne_int, cont?, setCont, List.replicate, fLen, sOwn, sApp, c1, ixC i hi, q, sExt, c2, lim]
    · rw [if_neg h] at hc
      rw [← hNr] at c1 q
      rw [decide_eq_false h] at q
      refine ⟨[.dat Tb, .dat C, .own Rd, .dat (.int (i : Nat)), .dat (tN (nbr a n i)), x5, x6, .un, .un], .nx, st (i + 1) (.dat (.int (i : Nat))) (.dat (tN (nbr a n i))) (.dat (.list Nr)) (.dat (iN (ca cells i))), by rw [hRd]; rfl, ?_, .inl rfl, _, _, _, _, rfl⟩
      show b1_ready_takings _ = some (Fl.nx, [.dat Tb, .dat C, .own ((rdy a n cells (i + 1)).map tkD), .dat (.int (i : Nat)), .dat (tN (nbr a n i)), .dat (.list Nr), .dat (iN (ca cells i)), .un, .un])
      rw [rdy_succ, hc, List.append_nil, ← hRd]
      unfold b1_ready_takings
      simp [bodyP, bodyI, startE, startI, sSeq, sRet, sAsg, sExp, sIfS, sNx, sV, sB, sC, PD.s2, toT, sTr, truth, bne_dec, sChain, sAnd, sOr, sNot, sIf, tAnd', tOr', tNot', sNil, sCons, sCall, allD, sN, allR, PD.res, sTup, sLst, sFr, gN, gT, gsNil, gsCons, sIsi, tyName, isSub, sOrE, sM1, sM1T, fAdd_int, fSub, fLe, fLt, fGt, fGe, eq_int, ne_int, cont?, setCont, List.replicate, fLen, sOwn, sApp, c1, ixC i hi, q]
  obtain ⟨ρ', e, x3, x4, x5, x6, rfl⟩ := this
  obtain ⟨T, e2, p⟩ := sorted_pairs (rdy a n cells cells.length)
  refine ⟨T, ?_, p⟩
  obtain ⟨Rd, hRd⟩ : ∃ Z, Z = (rdy a n cells cells.length).map tkD := ⟨_, rfl⟩
  have e' : l1_ready_takings [.dat Tb, .dat C, .own [], .un, .un, .un, .un, .un, .un] = some (.nx, [.dat Tb, .dat C, .own Rd, x3, x4, x5, x6, .un, .un]) := by
    rw [hRd]
    have := e
    rw [enumD_len, List.length_map, tl] at this
    exact this
  rw [← hRd] at e2
  rw [← hTb, ← hC]
  unfold p_ready_takings g_ready_takings
  simp [bodyP, bodyI, startE, startI, sSeq, sRet, sAsg, sExp, sIfS, sNx, sV, sB, sC, PD.s2, toT, sTr, truth, bne_dec, sChain, sAnd, sOr, sNot, sIf, tAnd', tOr', tNot', sNil, sCons, sCall, allD, sN, allR, PD.res, sTup, sLst, sFr, gN, gT, gsNil, gsCons, sIsi, tyName, isSub, sOrE, sM1, sM1T, fAdd_int, fSub, fLe, fLt, fGt, fGe, eq_int, ne_int, cont?, setCont, List.replicate, fLen, sOwn, sApp, sLst, e', sNF, e2]
theorem takings (V : Valid a n m cells) : ∃ T : List (Nat × Nat), p_takings [ch a cells] = some (.tuple (T.map tkD)) ∧ T.Perm (rdy a n cells cells.length) := by
  obtain ⟨T, e, p⟩ := ready V
  refine ⟨T, ?_, p⟩
  have ht := V.table
  unfold p_takings g_takings
  simp [bodyP, bodyI, startE, startI, sSeq, sRet, sAsg, sExp, sIfS, sNx, sV, sB, sC, PD.s2, toT, sTr, truth, bne_dec, sChain, sAnd, sOr, sNot, sIf, tAnd', tOr', tNot', sNil, sCons, sCall, allD, sN, allR, PD.res, sTup, sLst, sFr, gN, gT, gsNil, gsCons, sIsi, tyName, isSub, sOrE, sM1, sM1T, fAdd_int, fSub, fLe, fLt, fGt, fGe, eq_int, ne_int, cont?, setCont, List.replicate, fLen, sOwn, sApp, V.check, ht, ix1, e, fTupOf]
end
end S89

/-! tried again and again: the def's dict -/
namespace S89
open PySem PD
/-! ### keys -/
theorem keysD_nat (xs : List Nat) : keysD (xs.map iN) = some (xs.map fun (x : Nat) => NestedKey.num (x : Int)) := by
  induction xs with
  | nil => rfl
  | cons x xs ih =>
    rw [List.map_cons, List.map_cons]
    unfold keysD
    have : keyD (iN x) = some (.num (x : Int)) := rfl
    rw [this, ih]
    rfl
def kyN (xs : List Nat) : NestedKey := .tup (xs.map fun (x : Nat) => NestedKey.num (x : Int))
theorem keyD_tN (xs : List Nat) : keyD (tN xs) = some (kyN xs) := by
  show (keysD (xs.map iN)).map NestedKey.tup = _
  rw [keysD_nat]
  rfl
theorem kyN_inj {xs ys : List Nat} (h : kyN xs = kyN ys) : xs = ys := by
  unfold kyN at h
  injection h with h
  induction xs generalizing ys with
  | nil =>
    cases ys with
    | nil => rfl
    | cons y ys => cases h
  | cons x xs ih =>
    cases ys with
    | nil => cases h
    | cons y ys =>
      rw [List.map_cons, List.map_cons] at h
      injection h with h1 h2
      injection h1 with h1
      rw [ih h2, Int.ofNat_inj.mp h1]
theorem depth_nums (xs : List Nat) : NestedKey.depthAll (xs.map fun (x : Nat) => NestedKey.num (x : Int)) ≤ 1 := by
  induction xs with
  | nil => simp [NestedKey.depthAll]
  | cons x xs ih =>
    rw [List.map_cons, NestedKey.depthAll, NestedKey.depth]
    omega
theorem dkey_tN (xs : List Nat) : dkey (tN xs) = some (kyN xs) := by
  show (match keysD (xs.map iN) with | some ks => if (NestedKey.tup ks).depth ≤ 8 then some (NestedKey.tup ks) else none | none => none) = _
  rw [keysD_nat]
  have := depth_nums xs
  show (if (NestedKey.tup _).depth ≤ 8 then some _ else none) = _
  rw [if_pos]
  · rfl
  · rw [NestedKey.depth]
    omega
/-! ### a dict of the first of a sequence -/
def seqD (f : Nat → List Nat) (k : Nat) : List (PyData × PyData) := (List.range k).map fun i => (tN (f i), iN i)
theorem seqD_len (f : Nat → List Nat) (k : Nat) : (seqD f k).length = k := by unfold seqD; simp
theorem look_none {f : Nat → List Nat} {c : List Nat} : ∀ {k : Nat}, (∀ i, i < k → f i ≠ c) → dLook (seqD f k) (kyN c) = none := fun {k} h => by
  unfold dLook seqD
  rw [Option.map_eq_none_iff, List.find?_eq_none]
  intro p hp
  obtain ⟨i, hi, rfl⟩ := List.mem_map.mp hp
  rw [decide_eq_true_eq, keyD_tN]
  exact fun z => h i (List.mem_range.mp hi) (kyN_inj (Option.some.inj z))
theorem look_some {f : Nat → List Nat} {j : Nat} : ∀ {k : Nat}, j < k → (∀ i, i < j → f i ≠ f j) → dLook (seqD f k) (kyN (f j)) = some (iN j)
  | 0, h, _ => absurd h (Nat.not_lt_zero _)
  | k + 1, h, hn => by
    unfold dLook seqD
    rw [List.range_succ, List.map_append, List.find?_append]
    by_cases hj : j < k
    · have ih := look_some (f := f) hj hn
      unfold dLook seqD at ih
      obtain ⟨p, e1, e2⟩ := Option.map_eq_some_iff.mp ih
      rw [e1]
      show some p.2 = _
      rw [e2]
    · have e : j = k := by omega
      subst e
      have no := look_none (f := f) (c := f j) (k := j) hn
      unfold dLook seqD at no
      rw [Option.map_eq_none_iff] at no
      rw [no]
      have : decide (keyD (tN (f j)) = some (kyN (f j))) = true := by rw [keyD_tN]; exact decide_eq_true rfl
      rw [Option.none_or, List.map_cons, List.map_nil, List.find?_cons_of_pos (p := fun p : PyData × PyData => decide (keyD p.1 = some (kyN (f j)))) this]
      rfl
theorem put_seq {f : Nat → List Nat} {k : Nat} (h : ∀ i, i < k → f i ≠ f k) : dPut (seqD f k) (kyN (f k)) (tN (f k)) (iN k) = seqD f (k + 1) := by
  unfold dPut
  rw [look_none h]
  show seqD f k ++ [(tN (f k), iN k)] = _
  unfold seqD
  rw [List.range_succ, List.map_append]
  rfl
end S89

/-! the class of maps, where it is a path -/
namespace S89
open PySem PD
section
variable {a n m : Nat} {cells : List Nat}
theorem rdy_ok (V : Valid a n m cells) {t : Nat × Nat} (h : t ∈ rdy a n cells cells.length) : t.1 < m ∧ t.2 < cells.length ∧ canMk (nbr a n t.2) cells t.1 t.2 = true := by
  unfold rdy at h
  obtain ⟨c, hc, h⟩ := List.mem_flatMap.mp h
  have hc := List.mem_range.mp hc
  unfold cellT at h
  split at h
  · rename_i h1
    obtain ⟨l, hl, rfl⟩ := List.mem_map.mp h
    obtain ⟨l1, l2⟩ := List.mem_filter.mp hl
    have l2 : ¬ l = ca cells c := by simpa using l2
    refine ⟨?_, hc, ?_⟩
    · obtain ⟨p, hp, e⟩ := List.mem_map.mp l1
      show l < m
      rw [← e]
      exact V.lt _ (ca_mem (V.nbr_lt hc p hp))
    · unfold canMk
      simp only [Bool.and_eq_true, decide_eq_true_eq]
      exact ⟨l2, l1, h1⟩
  · cases h
/-- maps one behind the other: takings lead to the next and to the one before, nowhere else -/
structure Pth (a n m : Nat) (f : Nat → List Nat) (K : Nat) : Prop where
  pos : 0 < K
  small : K ≤ 100
  ok : ∀ i, i < K → Valid a n m (f i)
  ne : ∀ i j, i < j → j < K → f i ≠ f j
  go : ∀ i, i < K → ∀ t ∈ rdy a n (f i) (f i).length, (i + 1 < K ∧ step (f i) t = f (i + 1)) ∨ (0 < i ∧ step (f i) t = f (i - 1))
  ex : ∀ i, i + 1 < K → ∃ t ∈ rdy a n (f i) (f i).length, step (f i) t = f (i + 1)
theorem steps_path {f : Nat → List Nat} {K : Nat} (P : Pth a n m f K) : p_steps_by__ready_takings [ch a (f 0)] = some (.dict (seqD f K)) := by
  have hK := P.small
  have V0 := P.ok 0 P.pos
  have q3 := V0.table
  have tb : ∀ i, i < K → (tabN a n (f i).length) = tabN a n (f 0).length := fun i hi => by rw [(P.ok i hi).len, V0.len]
  obtain ⟨Tb, hTb⟩ : ∃ Z, Z = PyData.list ((tabN a n (f 0).length).map tN) := ⟨_, rfl⟩
  obtain ⟨C, hC⟩ : ∃ Z, Z = ch a (f 0) := ⟨_, rfl⟩
  have hix : fIx C (.int 1) = some (tN (f 0)) := by rw [hC]; rfl
  rw [← hC, ← hTb] at q3
  rw [← hC]
  -- one map's takings
  have turn : ∀ i, i < K → ∀ x7 x8, ∃ y7 y8, l1_steps_by__ready_takings [.dat C, .fn 0, .dat Tb, .dic (seqD f (i + 1)), .dat (.list [tN (f i)]), .own [], .dat (tN (f i)), x7, x8] =
      some (.nx, [.dat C, .fn 0, .dat Tb, .dic (seqD f (if i + 1 < K then i + 2 else i + 1)), .dat (.list [tN (f i)]), .own (if i + 1 < K then [tN (f (i + 1))] else []), .dat (tN (f i)), y7, y8]) := fun i hi x7 x8 => by
    obtain ⟨T, eT, pT⟩ := ready (P.ok i hi)
    rw [tb i hi, ← hTb] at eT
    have Vi := P.ok i hi
    have Tl : T.length < 1000 := by
      have := pT.length_eq
      have := rdy_len Vi (f i).length
      have := Vi.len_lt
      omega
    let st : Bool → Sl → Sl → Ev := fun b x y => [.dat C, .fn 0, .dat Tb, .dic (seqD f (if b = true then i + 2 else i + 1)), .dat (.list [tN (f i)]), .own (if b = true then [tN (f (i + 1))] else []), .dat (tN (f i)), x, y]
    have loop : ∃ ρ', l1_steps_by__ready_takings (st false x7 x8) = some (.nx, ρ') ∧ ∃ b x y, ρ' = st b x y ∧ (b = true → i + 1 < K) ∧ (b = false → ∀ t ∈ T.take (T.map tkD).length, ¬ (i + 1 < K ∧ step (f i) t = f (i + 1))) := by
      refine sFor_inv (items := T.map tkD) (ρ1 := st false x7 x8) (fun j ρ => ∃ b x y, ρ = st b x y ∧ (b = true → i + 1 < K) ∧ (b = false → ∀ t ∈ T.take j, ¬ (i + 1 < K ∧ step (f i) t = f (i + 1)))) ?_ ⟨false, x7, x8, rfl, fun z => Bool.noConfusion z, fun _ t ht => by cases ht⟩ ?_
      · show sSq (sCallV 1 0 p_ready_takings (sCons (sV 2) (sCons (sV 6) sNil))) [.dat C, .fn 0, .dat Tb, .dic (seqD f (i + 1)), .dat (.list [tN (f i)]), .own [], .dat (tN (f i)), x7, x8] = some (T.map tkD, [.dat C, .fn 0, .dat Tb, .dic (seqD f (i + 1)), .dat (.list [tN (f i)]), .own [], .dat (tN (f i)), x7, x8])
        obtain ⟨D, hD⟩ : ∃ Z, Z = tN (f i) := ⟨_, rfl⟩
        obtain ⟨S, hS⟩ : ∃ Z, Z = seqD f (i + 1) := ⟨_, rfl⟩
        obtain ⟨W, hW⟩ : ∃ Z, Z = T.map tkD := ⟨_, rfl⟩
        rw [← hD, ← hW] at eT
        rw [← hD, ← hS, ← hW]
        simp [bodyP, bodyI, startE, startI, sSeq, sRet, sAsg, sExp, sIfS, sNx, sV, sB, sC, PD.s2, toT, sTr, truth, bne_dec, sChain, sAnd, sOr, sNot, sIf, tAnd', tOr', tNot', sNil, sCons, sCall, allD, sN, allR, PD.res, sTup, sLst, sFr, gN, gT, gsNil, gsCons, sIsi, tyName, isSub, sOrE, sM1, sM1T, fAdd_int, fSub, fLe, fLt, fGt, fGe, eq_int, ne_int, cont?, setCont, List.replicate, fLen, sOwn, sApp, sSq, sCallV, eT]
      · rintro j d ρ hd ⟨b, x, y, rfl, hb1, hb2⟩
        rw [List.getElem?_map, Option.map_eq_some_iff] at hd
        obtain ⟨t, g1, rfl⟩ := hd
        have e : T.take (j + 1) = T.take j ++ [t] := by
          obtain ⟨hj, g2⟩ := List.getElem?_eq_some_iff.mp g1
          rw [← g2]
          exact (List.take_append_getElem hj).symm
        have ht : t ∈ rdy a n (f i) (f i).length := pT.mem_iff.mp (List.mem_of_getElem? g1)
        obtain ⟨h1, h2, h3⟩ := rdy_ok Vi ht
        have hlen := Vi.len_lt
        have q2 : p_made [tN (f i), tkD t] = some (tN (step (f i) t)) := made h2 (by omega)
        rcases P.go i hi t ht with ⟨k1, k2⟩ | ⟨k1, k2⟩
        · -- ahead
          rw [k2] at q2
          refine ⟨st b (.dat (tkD t)) y, .nx, st true (.dat (tkD t)) (.dat (tN (f (i + 1)))), rfl, ?_, .inl rfl, true, _, _, rfl, fun _ => k1, fun z => Bool.noConfusion z⟩
          have dk := dkey_tN (f (i + 1))
          have dki := dkey_tN (f i)
          obtain ⟨D, hD⟩ : ∃ Z, Z = tN (f i) := ⟨_, rfl⟩
          obtain ⟨D1, hD1⟩ : ∃ Z, Z = tN (f (i + 1)) := ⟨_, rfl⟩
          obtain ⟨G, hG⟩ : ∃ Z, Z = tkD t := ⟨_, rfl⟩
          cases b with
          | false =>
            have lk : dLook (seqD f (i + 1)) (kyN (f (i + 1))) = none := look_none fun z hz => P.ne z (i + 1) (by omega) k1
            have li : dLook (seqD f (i + 1)) (kyN (f i)) = some (iN i) := look_some (by omega) fun z hz => P.ne z i hz hi
            have pt : dPut (seqD f (i + 1)) (kyN (f (i + 1))) (tN (f (i + 1))) (iN (i + 1)) = seqD f (i + 2) := put_seq fun z hz => P.ne z (i + 1) hz k1
            have nin : fNotInK (tN (f (i + 1))) (.dict (seqD f (i + 1))) = some (.bool true) := by
              show (dkey (tN (f (i + 1)))).map _ = _
              rw [dk]
              show some (PyData.bool (!(dLook (seqD f (i + 1)) (kyN (f (i + 1)))).isSome)) = _
              rw [lk]
              rfl
            have ixk : fIxK (.dict (seqD f (i + 1))) (tN (f i)) = some (iN i) := by
              show (dkey (tN (f i))).bind _ = _
              rw [dki]
              exact li
            have sl : (seqD f (i + 1)).length < 1000000 := by rw [seqD_len]; omega
            have i1 : ((i : Int) + 1) = ((i + 1 : Nat) : Int) := by omega
            show b1_steps_by__ready_takings [.dat C, .fn 0, .dat Tb, .dic (seqD f (i + 1)), .dat (.list [tN (f i)]), .own [], .dat (tN (f i)), .dat (tkD t), y] = some (.nx, [.dat C, .fn 0, .dat Tb, .dic (seqD f (i + 2)), .dat (.list [tN (f i)]), .own [tN (f (i + 1))], .dat (tN (f i)), .dat (tkD t), .dat (tN (f (i + 1)))])
            obtain ⟨S, hS⟩ : ∃ Z, Z = seqD f (i + 1) := ⟨_, rfl⟩
            obtain ⟨S2, hS2⟩ : ∃ Z, Z = seqD f (i + 2) := ⟨_, rfl⟩
            obtain ⟨ky, hky⟩ : ∃ Z, Z = kyN (f (i + 1)) := ⟨_, rfl⟩
            obtain ⟨I1, hI1⟩ : ∃ Z, Z = i + 1 := ⟨_, rfl⟩
            rw [← hI1] at i1
            have pt' : dPut S ky D1 (iN I1) = S2 := by rw [hS, hky, hD1, hI1, hS2]; exact pt
            rw [← hD, ← hD1, ← hG] at q2
            rw [← hD1, ← hky] at dk
            rw [← hD1, ← hS] at nin
            rw [← hS, ← hD] at ixk
            rw [← hS] at sl
            rw [← hS, ← hS2, ← hD, ← hD1, ← hG]
            unfold b1_steps_by__ready_takings
            simp [bodyP, bodyI, startE, startI, sSeq, sRet, sAsg, sExp, sIfS, sNx, sV, sB, sC, PD.s2, toT, sTr, truth, bne_dec, sChain, sAnd, sOr, sNot, sIf, tAnd', tOr', tNot', sNil, sCons, sCall, allD, sN, allR, PD.res, sTup, sLst, sFr, gN, gT, gsNil, gsCons, sIsi, tyName, isSub, sOrE, sM1, sM1T, fAdd_int, fSub, fLe, fLt, fGt, fGe, eq_int, ne_int, cont?, setCont, List.replicate, fLen, sOwn, sApp, q2, nin, sSetK, dicAt, ixk, i1, dk, sl, pt']
          | true =>
            have lk : dLook (seqD f (i + 2)) (kyN (f (i + 1))) = some (iN (i + 1)) := look_some (by omega) fun z hz => P.ne z (i + 1) hz k1
            have nin : fNotInK (tN (f (i + 1))) (.dict (seqD f (i + 2))) = some (.bool false) := by
              show (dkey (tN (f (i + 1)))).map _ = _
              rw [dk]
              show some (PyData.bool (!(dLook (seqD f (i + 2)) (kyN (f (i + 1)))).isSome)) = _
              rw [lk]
              rfl
            show b1_steps_by__ready_takings [.dat C, .fn 0, .dat Tb, .dic (seqD f (i + 2)), .dat (.list [tN (f i)]), .own [tN (f (i + 1))], .dat (tN (f i)), .dat (tkD t), y] = some (.nx, [.dat C, .fn 0, .dat Tb, .dic (seqD f (i + 2)), .dat (.list [tN (f i)]), .own [tN (f (i + 1))], .dat (tN (f i)), .dat (tkD t), .dat (tN (f (i + 1)))])
            obtain ⟨S2, hS2⟩ : ∃ Z, Z = seqD f (i + 2) := ⟨_, rfl⟩
            rw [← hD, ← hD1, ← hG] at q2
            rw [← hD1, ← hS2] at nin
            rw [← hS2, ← hD, ← hD1, ← hG]
            unfold b1_steps_by__ready_takings
            simp [bodyP, bodyI, startE, startI, sSeq, sRet, sAsg, sExp, sIfS, sNx, sV, sB, sC, PD.s2, toT, sTr, truth, bne_dec, sChain, sAnd, sOr, sNot, sIf, tAnd', tOr', tNot', sNil, sCons, sCall, allD, sN, allR, PD.res, sTup, sLst, sFr, gN, gT, gsNil, gsCons, sIsi, tyName, isSub, sOrE, sM1, sM1T, fAdd_int, fSub, fLe, fLt, fGt, fGe, eq_int, ne_int, cont?, setCont, List.replicate, fLen, sOwn, sApp, q2, nin]
        · -- back
          rw [k2] at q2
          have dk := dkey_tN (f (i - 1))
          have lk : ∀ k, i - 1 < k → dLook (seqD f k) (kyN (f (i - 1))) = some (iN (i - 1)) := fun k hk => look_some hk fun z hz => P.ne z (i - 1) hz (by omega)
          have nin : ∀ k, i - 1 < k → fNotInK (tN (f (i - 1))) (.dict (seqD f k)) = some (.bool false) := fun k hk => by
            show (dkey (tN (f (i - 1)))).map _ = _
            rw [dk]
            show some (PyData.bool (!(dLook (seqD f k) (kyN (f (i - 1)))).isSome)) = _
            rw [lk k hk]
            rfl
          refine ⟨st b (.dat (tkD t)) y, .nx, st b (.dat (tkD t)) (.dat (tN (f (i - 1)))), rfl, ?_, .inl rfl, b, _, _, rfl, hb1, fun hb t' ht' => ?_⟩
          · have nin' := nin (if b = true then i + 2 else i + 1) (by cases b <;> simp <;> omega)
            show b1_steps_by__ready_takings [.dat C, .fn 0, .dat Tb, .dic (seqD f (if b = true then i + 2 else i + 1)), .dat (.list [tN (f i)]), .own (if b = true then [tN (f (i + 1))] else []), .dat (tN (f i)), .dat (tkD t), y] = some (.nx, [.dat C, .fn 0, .dat Tb, .dic (seqD f (if b = true then i + 2 else i + 1)), .dat (.list [tN (f i)]), .own (if b = true then [tN (f (i + 1))] else []), .dat (tN (f i)), .dat (tkD t), .dat (tN (f (i - 1)))])
            obtain ⟨S, hS⟩ : ∃ Z, Z = seqD f (if b = true then i + 2 else i + 1) := ⟨_, rfl⟩
            obtain ⟨A, hA⟩ : ∃ Z, Z = (if b = true then [tN (f (i + 1))] else []) := ⟨_, rfl⟩
            obtain ⟨D, hD⟩ : ∃ Z, Z = tN (f i) := ⟨_, rfl⟩
            obtain ⟨D1, hD1⟩ : ∃ Z, Z = tN (f (i - 1)) := ⟨_, rfl⟩
            obtain ⟨G, hG⟩ : ∃ Z, Z = tkD t := ⟨_, rfl⟩
            rw [← hD, ← hD1, ← hG] at q2
            rw [← hD1, ← hS] at nin'
            rw [← hS, ← hA, ← hD, ← hD1, ← hG]
            unfold b1_steps_by__ready_takings
            simp [bodyP, bodyI, startE, startI, sSeq, sRet, sAsg, sExp, sIfS, sNx, sV, sB, sC, PD.s2, toT, sTr, truth, bne_dec, sChain, sAnd, sOr, sNot, sIf, tAnd', tOr', tNot', sNil, sCons, sCall, allD, sN, allR, PD.res, sTup, sLst, sFr, gN, gT, gsNil, gsCons, sIsi, tyName, isSub, sOrE, sM1, sM1T, fAdd_int, fSub, fLe, fLt, fGt, fGe, eq_int, ne_int, cont?, setCont, List.replicate, fLen, sOwn, sApp, q2, nin']
          · rw [e] at ht'
            rcases List.mem_append.mp ht' with ht' | ht'
            · exact hb2 hb t' ht'
            · rw [List.mem_singleton] at ht'
              subst ht'
              rintro ⟨z1, z2⟩
              rw [k2] at z2
              exact P.ne (i - 1) (i + 1) (by omega) z1 z2
    obtain ⟨ρ', eL, b, x, y, rfl, hb1, hb2⟩ := loop
    have hb : b = decide (i + 1 < K) := by
      by_cases z : i + 1 < K
      · rw [decide_eq_true z]
        cases b with
        | true => rfl
        | false =>
          obtain ⟨t, ht, es⟩ := P.ex i z
          refine absurd ⟨z, es⟩ (hb2 rfl t ?_)
          rw [List.length_map, List.take_length]
          exact pT.mem_iff.mpr ht
      · rw [decide_eq_false z]
        cases b with
        | true => exact absurd (hb1 rfl) z
        | false => rfl
    refine ⟨x, y, ?_⟩
    have e1 : (if b = true then i + 2 else i + 1) = if i + 1 < K then i + 2 else i + 1 := by rw [hb]; simp
    have e2 : (if b = true then [tN (f (i + 1))] else []) = if i + 1 < K then [tN (f (i + 1))] else [] := by rw [hb]; simp
    rw [← e1, ← e2]
    exact eL
  have dk0 := dkey_tN (f 0)
  have layer : ∀ i, i < K → ∀ x5 x6 x7 x8, ∃ y6 y7 y8, b3_steps_by__ready_takings [.dat C, .fn 0, .dat Tb, .dic (seqD f (i + 1)), .dat (.list [tN (f i)]), x5, x6, x7, x8] =
      some (.nx, [.dat C, .fn 0, .dat Tb, .dic (seqD f (if i + 1 < K then i + 2 else i + 1)), .dat (.list (if i + 1 < K then [tN (f (i + 1))] else [])), .dat (.list (if i + 1 < K then [tN (f (i + 1))] else [])), y6, y7, y8]) := fun i hi x5 x6 x7 x8 => by
    obtain ⟨y7, y8, e⟩ := turn i hi x7 x8
    refine ⟨.dat (tN (f i)), y7, y8, ?_⟩
    obtain ⟨S, hS⟩ : ∃ Z, Z = seqD f (i + 1) := ⟨_, rfl⟩
    obtain ⟨S2, hS2⟩ : ∃ Z, Z = seqD f (if i + 1 < K then i + 2 else i + 1) := ⟨_, rfl⟩
    obtain ⟨A, hA⟩ : ∃ Z, Z = (if i + 1 < K then [tN (f (i + 1))] else []) := ⟨_, rfl⟩
    obtain ⟨D, hD⟩ : ∃ Z, Z = tN (f i) := ⟨_, rfl⟩
    rw [← hS, ← hS2, ← hA, ← hD] at e
    rw [← hS, ← hS2, ← hA, ← hD]
    have l2' : l2_steps_by__ready_takings [.dat C, .fn 0, .dat Tb, .dic S, .dat (.list [D]), .own [], x6, x7, x8] = some (.nx, [.dat C, .fn 0, .dat Tb, .dic S2, .dat (.list [D]), .own A, .dat D, y7, y8]) := by
      have b2 : b2_steps_by__ready_takings [.dat C, .fn 0, .dat Tb, .dic S, .dat (.list [D]), .own [], .dat D, x7, x8] = some (.nx, [.dat C, .fn 0, .dat Tb, .dic S2, .dat (.list [D]), .own A, .dat D, y7, y8]) := by
        unfold b2_steps_by__ready_takings
        simp [bodyP, bodyI, startE, startI, sSeq, sRet, sAsg, sExp, sIfS, sNx, sV, sB, sC, PD.s2, toT, sTr, truth, bne_dec, sChain, sAnd, sOr, sNot, sIf, tAnd', tOr', tNot', sNil, sCons, sCall, allD, sN, allR, PD.res, sTup, sLst, sFr, gN, gT, gsNil, gsCons, sIsi, tyName, isSub, sOrE, sM1, sM1T, fAdd_int, fSub, fLe, fLt, fGt, fGe, eq_int, ne_int, cont?, setCont, List.replicate, fLen, sOwn, sApp, e]
      show sFor (gN 6) (sSq (sV 4)) b2_steps_by__ready_takings _ = _
      simp [bodyP, bodyI, startE, startI, sSeq, sRet, sAsg, sExp, sIfS, sNx, sV, sB, sC, PD.s2, toT, sTr, truth, bne_dec, sChain, sAnd, sOr, sNot, sIf, tAnd', tOr', tNot', sNil, sCons, sCall, allD, sN, allR, PD.res, sTup, sLst, sFr, gN, gT, gsNil, gsCons, sIsi, tyName, isSub, sOrE, sM1, sM1T, fAdd_int, fSub, fLe, fLt, fGt, fGe, eq_int, ne_int, cont?, setCont, List.replicate, fLen, sOwn, sApp, sFor, sSq, loopS, b2]
    unfold b3_steps_by__ready_takings
    simp [bodyP, bodyI, startE, startI, sSeq, sRet, sAsg, sExp, sIfS, sNx, sV, sB, sC, PD.s2, toT, sTr, truth, bne_dec, sChain, sAnd, sOr, sNot, sIf, tAnd', tOr', tNot', sNil, sCons, sCall, allD, sN, allR, PD.res, sTup, sLst, sFr, gN, gT, gsNil, gsCons, sIsi, tyName, isSub, sOrE, sM1, sM1T, fAdd_int, fSub, fLe, fLt, fGt, fGe, eq_int, ne_int, cont?, setCont, List.replicate, fLen, sOwn, sApp, sLst, l2']
  have run : ∀ (d i : Nat) (F : Nat) (x5 x6 x7 x8 : Sl), i + d + 1 = K → d + 1 < F → ∃ y5 y6 y7 y8, loopW (sTr (sV 4)) b3_steps_by__ready_takings F [.dat C, .fn 0, .dat Tb, .dic (seqD f (i + 1)), .dat (.list [tN (f i)]), x5, x6, x7, x8] = some (.nx, [.dat C, .fn 0, .dat Tb, .dic (seqD f K), .dat (.list []), y5, y6, y7, y8]) := fun d => by
    induction d with
    | zero =>
      intro i F x5 x6 x7 x8 hi hF
      obtain ⟨F', rfl⟩ : ∃ F', F = F' + 2 := ⟨F - 2, by omega⟩
      obtain ⟨y6, y7, y8, e⟩ := layer i (by omega) x5 x6 x7 x8
      rw [if_neg (by omega), if_neg (by omega)] at e
      have hk : i + 1 = K := by omega
      refine ⟨.dat (.list []), y6, y7, y8, ?_⟩
      rw [hk] at e ⊢
      unfold loopW
      have t1 : sTr (sV 4) [.dat C, .fn 0, .dat Tb, .dic (seqD f K), .dat (.list [tN (f i)]), x5, x6, x7, x8] = some (true, [.dat C, .fn 0, .dat Tb, .dic (seqD f K), .dat (.list [tN (f i)]), x5, x6, x7, x8]) := rfl
      rw [t1]
      dsimp only
      rw [e]
      rfl
    | succ d ih =>
      intro i F x5 x6 x7 x8 hi hF
      obtain ⟨F', rfl⟩ : ∃ F', F = F' + 1 := ⟨F - 1, by omega⟩
      obtain ⟨y6, y7, y8, e⟩ := layer i (by omega) x5 x6 x7 x8
      rw [if_pos (by omega), if_pos (by omega)] at e
      obtain ⟨z5, z6, z7, z8, e2⟩ := ih (i + 1) F' (.dat (.list [tN (f (i + 1))])) y6 y7 y8 (by omega) (by omega)
      refine ⟨z5, z6, z7, z8, ?_⟩
      unfold loopW
      have t1 : sTr (sV 4) [.dat C, .fn 0, .dat Tb, .dic (seqD f (i + 1)), .dat (.list [tN (f i)]), x5, x6, x7, x8] = some (true, [.dat C, .fn 0, .dat Tb, .dic (seqD f (i + 1)), .dat (.list [tN (f i)]), x5, x6, x7, x8]) := rfl
      rw [t1]
      dsimp only
      rw [e]
      exact e2
  obtain ⟨y5, y6, y7, y8, lp⟩ := run (K - 1) 0 100000 .un .un .un .un (by have := P.pos; omega) (by omega)
  have s1 : seqD f (0 + 1) = [(tN (f 0), iN 0)] := rfl
  have lp' : w1_steps_by__ready_takings [.dat C, .fn 0, .dat Tb, .dic [(tN (f 0), .int 0)], .dat (.list [tN (f 0)]), .un, .un, .un, .un] = some (.nx, [.dat C, .fn 0, .dat Tb, .dic (seqD f K), .dat (.list []), y5, y6, y7, y8]) := lp
  obtain ⟨S, hS⟩ : ∃ Z, Z = seqD f K := ⟨_, rfl⟩
  obtain ⟨D, hD⟩ : ∃ Z, Z = tN (f 0) := ⟨_, rfl⟩
  rw [← hS, ← hD] at lp'
  rw [← hD] at hix dk0
  rw [← hS]
  have st0 : startF 9 1 [C] = [.dat C, .fn 0, .un, .un, .un, .un, .un, .un, .un] := rfl
  unfold p_steps_by__ready_takings g_steps_by__ready_takings bodyF
  rw [if_pos (show [C].length + 1 = 2 from rfl), st0]
  simp [bodyP, bodyI, startE, startI, sSeq, sRet, sAsg, sExp, sIfS, sNx, sV, sB, sC, PD.s2, toT, sTr, truth, bne_dec, sChain, sAnd, sOr, sNot, sIf, tAnd', tOr', tNot', sNil, sCons, sCall, allD, sN, allR, PD.res, sTup, sLst, sFr, gN, gT, gsNil, gsCons, sIsi, tyName, isSub, sOrE, sM1, sM1T, fAdd_int, fSub, fLe, fLt, fGt, fGe, eq_int, ne_int, cont?, setCont, List.replicate, fLen, sOwn, sApp, q3, sNew1, hix, dk0, sLst, lp']
end
end S89

/-! paths: size, farthest; maps whose lands bear other names -/
namespace S89
open PySem PD
section
variable {a n m : Nat} {cells : List Nat}
theorem class_size {f : Nat → List Nat} {K : Nat} (P : Pth a n m f K) : p_class_size [ch a (f 0)] = some (iN K) := by
  have q1 := (P.ok 0 P.pos).check
  have q2 := steps_path P
  have sl := seqD_len f K
  obtain ⟨C, hC⟩ : ∃ Z, Z = ch a (f 0) := ⟨_, rfl⟩
  obtain ⟨S, hS⟩ : ∃ Z, Z = seqD f K := ⟨_, rfl⟩
  rw [← hC] at q1 q2
  rw [← hS] at q2 sl
  rw [← hC]
  have q3 : p_steps_from [C] = some (.dict S) := by
    unfold p_steps_from g_steps_from
    simp [bodyP, bodyI, startE, startI, sSeq, sRet, sAsg, sExp, sIfS, sNx, sV, sB, sC, PD.s2, toT, sTr, truth, bne_dec, sChain, sAnd, sOr, sNot, sIf, tAnd', tOr', tNot', sNil, sCons, sCall, allD, sN, allR, PD.res, sTup, sLst, sFr, gN, gT, gsNil, gsCons, sIsi, tyName, isSub, sOrE, sM1, sM1T, fAdd_int, fSub, fLe, fLt, fGt, fGe, eq_int, ne_int, cont?, setCont, List.replicate, fLen, sOwn, sApp, q2]
  unfold p_class_size g_class_size
  simp [bodyP, bodyI, startE, startI, sSeq, sRet, sAsg, sExp, sIfS, sNx, sV, sB, sC, PD.s2, toT, sTr, truth, bne_dec, sChain, sAnd, sOr, sNot, sIf, tAnd', tOr', tNot', sNil, sCons, sCall, allD, sN, allR, PD.res, sTup, sLst, sFr, gN, gT, gsNil, gsCons, sIsi, tyName, isSub, sOrE, sM1, sM1T, fAdd_int, fSub, fLe, fLt, fGt, fGe, eq_int, ne_int, cont?, setCont, List.replicate, fLen, sOwn, sApp, q1, q3, fLenK, sl]
theorem mxI_range : ∀ K : Nat, 0 < K → mxI ((List.range K).map fun (i : Nat) => (i : Int)) = ((K - 1 : Nat) : Int) := fun K hK => by
  unfold mxI
  refine (PySem.W.Mm.greatest ?_ fun j hj => ?_).symm
  · exact List.mem_map.mpr ⟨K - 1, List.mem_range.mpr (by omega), rfl⟩
  · obtain ⟨i, hi, rfl⟩ := List.mem_map.mp hj
    have := List.mem_range.mp hi
    omega
theorem farthest {f : Nat → List Nat} {K : Nat} (P : Pth a n m f K) : p_farthest [ch a (f 0)] = some (iN (K - 1)) := by
  have q1 := (P.ok 0 P.pos).check
  have q2 := steps_path P
  have q4 : fMaxV (.dict (seqD f K)) = some (iN (K - 1)) := by
    have e : (seqD f K).map (·.2) = (List.range K).map iN := by
      unfold seqD
      rw [List.map_map]
      rfl
    have e2 : intsOf ((List.range K).map iN) = some ((List.range K).map fun (i : Nat) => (i : Int)) := intsOf_nat _
    show (match intsOf ((seqD f K).map (·.2)) with | some (i :: is) => some (PyData.int (mxI (i :: is))) | _ => none) = _
    rw [e, e2]
    have hm := mxI_range K P.pos
    cases hl : (List.range K).map fun (i : Nat) => (i : Int) with
    | nil =>
      have := congrArg List.length hl
      rw [List.length_map, List.length_range] at this
      have := P.pos
      simp at *
      omega
    | cons i is =>
      rw [hl] at hm
      show some (PyData.int (mxI (i :: is))) = _
      rw [hm]
  obtain ⟨C, hC⟩ : ∃ Z, Z = ch a (f 0) := ⟨_, rfl⟩
  obtain ⟨S, hS⟩ : ∃ Z, Z = seqD f K := ⟨_, rfl⟩
  rw [← hC] at q1 q2
  rw [← hS] at q2 q4
  rw [← hC]
  have q3 : p_steps_from [C] = some (.dict S) := by
    unfold p_steps_from g_steps_from
    simp [bodyP, bodyI, startE, startI, sSeq, sRet, sAsg, sExp, sIfS, sNx, sV, sB, sC, PD.s2, toT, sTr, truth, bne_dec, sChain, sAnd, sOr, sNot, sIf, tAnd', tOr', tNot', sNil, sCons, sCall, allD, sN, allR, PD.res, sTup, sLst, sFr, gN, gT, gsNil, gsCons, sIsi, tyName, isSub, sOrE, sM1, sM1T, fAdd_int, fSub, fLe, fLt, fGt, fGe, eq_int, ne_int, cont?, setCont, List.replicate, fLen, sOwn, sApp, q2]
  unfold p_farthest g_farthest
  simp [bodyP, bodyI, startE, startI, sSeq, sRet, sAsg, sExp, sIfS, sNx, sV, sB, sC, PD.s2, toT, sTr, truth, bne_dec, sChain, sAnd, sOr, sNot, sIf, tAnd', tOr', tNot', sNil, sCons, sCall, allD, sN, allR, PD.res, sTup, sLst, sFr, gN, gT, gsNil, gsCons, sIsi, tyName, isSub, sOrE, sM1, sM1T, fAdd_int, fSub, fLe, fLt, fGt, fGe, eq_int, ne_int, cont?, setCont, List.replicate, fLen, sOwn, sApp, q1, q3, sMaxV, q4]
/-! ### other names -/
/-- names for the lands: unlike ones for unlike ones -/
def Inj (σ : Nat → Nat) : Prop := ∀ i j, σ i = σ j → i = j
variable {σ : Nat → Nat}
theorem ca_map {c : Nat} (hc : c < cells.length) : ca (cells.map σ) c = σ (ca cells c) := by
  unfold ca
  rw [List.getD_eq_getElem?_getD, List.getElem?_map, List.getD_eq_getElem?_getD, List.getElem?_eq_getElem hc]
  rfl
theorem count_inj (h : Inj σ) (x : Nat) : ∀ xs : List Nat, (xs.map σ).count (σ x) = xs.count x
  | [] => rfl
  | y :: r => by
    rw [List.map_cons, List.count_cons, List.count_cons, count_inj h x r]
    by_cases z : y = x
    · rw [z]; simp
    · have : ¬ σ y = σ x := fun e => z (h _ _ e)
      simp [z, this]
theorem filter_inj (h : Inj σ) (x c : Nat) : ∀ xs : List Nat, ((xs.map σ).filter fun l => !decide (l = σ x)).map (fun l => (l, c)) = ((xs.filter fun l => !decide (l = x)).map fun l => (l, c)).map fun t => (σ t.1, t.2)
  | [] => rfl
  | y :: r => by
    rw [List.map_cons, List.filter_cons, List.filter_cons]
    have ih := filter_inj h x c r
    by_cases z : y = x
    · rw [z]
      simpa using ih
    · have : ¬ σ y = σ x := fun e => z (h _ _ e)
      simp only [z, this, decide_false, Bool.not_false, if_true, List.map_cons, ih]
theorem rdy_map (h : Inj σ) (lt : ∀ c, c < cells.length → ∀ p ∈ nbr a n c, p < cells.length) : rdy a n (cells.map σ) (cells.map σ).length = (rdy a n cells cells.length).map fun t => (σ t.1, t.2) := by
  have one : ∀ c, c < cells.length → cellT a n (cells.map σ) c = (cellT a n cells c).map fun t => (σ t.1, t.2) := fun c hc => by
    have nr : near (cells.map σ) (nbr a n c) = (near cells (nbr a n c)).map σ := by
      unfold near
      rw [List.map_map]
      exact List.map_congr_left fun p hp => ca_map (lt c hc p hp)
    unfold cellT
    rw [nr, ca_map hc, count_inj h]
    by_cases z : (near cells (nbr a n c)).count (ca cells c) = 1
    · rw [if_pos z, if_pos z]
      exact filter_inj h _ _ _
    · rw [if_neg z, if_neg z]
      rfl
  rw [List.length_map]
  have all : ∀ k, k ≤ cells.length → rdy a n (cells.map σ) k = (rdy a n cells k).map fun t => (σ t.1, t.2) := fun k => by
    induction k with
    | zero => intro _; rfl
    | succ k ih =>
      intro hk
      rw [rdy_succ, rdy_succ, ih (by omega), one k (by omega), List.map_append]
  exact all _ (Nat.le_refl _)
theorem step_map (t : Nat × Nat) : step (cells.map σ) (σ t.1, t.2) = (step cells t).map σ := by
  unfold step
  rw [List.map_set]
theorem map_injL (h : Inj σ) : ∀ {xs ys : List Nat}, xs.map σ = ys.map σ → xs = ys
  | [], [], _ => rfl
  | [], _ :: _, e => by cases e
  | _ :: _, [], e => by cases e
  | x :: xs, y :: ys, e => by
    rw [List.map_cons, List.map_cons] at e
    injection e with e1 e2
    rw [h _ _ e1, map_injL h e2]
/-! ### the maps of one arm -/
/-- the lands of one arm k: 1, 2, .., at the places but h -/
def armR (a n k h j : Nat) : List Nat := if j = k then (List.range n).map fun i => if i < h then i + 1 else i else List.replicate n 0
def canon (a n k h : Nat) : List Nat := 0 :: ((List.range a).map (armR a n k h)).flatten
/-- all that can be taken, of each of them -/
theorem canon_tight : ∀ a ∈ [3, 4], ∀ n ∈ [1, 2, 3, 4], ∀ k ∈ List.range a, rdy a n (canon a n k n) (canon a n k n).length = [] := by decide +kernel
theorem canon_first : ∀ a ∈ [3, 4], ∀ n ∈ [2, 3, 4], ∀ k ∈ List.range a, rdy a n (canon a n k (n - 1)) (canon a n k (n - 1)).length = [(n - 2, 1 + k * n + (n - 2))] := by decide +kernel
theorem canon_go : ∀ a ∈ [3, 4], ∀ n ∈ [2, 3, 4], ∀ k ∈ List.range a, ∀ i ∈ List.range n, ∀ t ∈ rdy a n (canon a n k (n - 1 - i)) (canon a n k (n - 1 - i)).length,
    (i + 1 < n ∧ step (canon a n k (n - 1 - i)) t = canon a n k (n - 1 - (i + 1))) ∨ (0 < i ∧ step (canon a n k (n - 1 - i)) t = canon a n k (n - 1 - (i - 1))) := by decide +kernel
theorem canon_ex : ∀ a ∈ [3, 4], ∀ n ∈ [2, 3, 4], ∀ k ∈ List.range a, ∀ i ∈ List.range (n - 1),
    (rdy a n (canon a n k (n - 1 - i)) (canon a n k (n - 1 - i)).length).any (fun t => decide (step (canon a n k (n - 1 - i)) t = canon a n k (n - 1 - (i + 1)))) = true := by decide +kernel
theorem canon_ne : ∀ a ∈ [3, 4], ∀ n ∈ [2, 3, 4], ∀ k ∈ List.range a, ∀ j ∈ List.range n, ∀ i ∈ List.range j, canon a n k (n - 1 - i) ≠ canon a n k (n - 1 - j) := by decide +kernel
theorem canon_len : ∀ a ∈ [3, 4], ∀ n ∈ [1, 2, 3, 4], ∀ k ∈ List.range a, ∀ h ∈ List.range (n + 1), (canon a n k h).length = 1 + a * n := by decide +kernel
theorem canon_nbr : ∀ a ∈ [3, 4], ∀ n ∈ [1, 2, 3, 4], ∀ c ∈ List.range (1 + a * n), ∀ p ∈ nbr a n c, p < 1 + a * n := by decide +kernel
theorem canon_count : ∀ a ∈ [3, 4], ∀ n ∈ [1, 2, 3, 4], ∀ k ∈ List.range a, (canon a n k n).count 0 = (a - 1) * n + 1 := by decide +kernel
theorem canon_count1 : ∀ a ∈ [3, 4], ∀ k ∈ List.range a, (canon a 1 k 1).count 1 = 1 := by decide +kernel
end
end S89

/-! one arm with all lands: tight, and with one land less -/
namespace S89
open PySem PD
section
variable {a n k c : Nat} {σ : Nat → Nat}
def osA (a k c : Nat) (σ : Nat → Nat) : List (List Nat) := (List.range a).map fun j => if j = k then (List.range c).map fun i => σ (i + 1) else []
def psA (a k c : Nat) : List (List Nat) := (List.range a).map fun j => if j = k then List.range c else []
theorem gR_os {j : Nat} (hj : j < a) : gR (osA a k c σ) j = if j = k then (List.range c).map (fun i => σ (i + 1)) else [] := by
  unfold gR osA
  rw [List.getD_eq_getElem?_getD, List.getElem?_map, List.getElem?_range hj]
  rfl
theorem ord_A (ha : 3 ≤ a ∧ a ≤ 4) (hn : 1 ≤ n ∧ n ≤ 4) (hc : c ≤ n) (s4 : ∀ i, i ≤ c → σ i ≤ 4) : Ord a n (osA a k c σ) (psA a k c) := by
  refine ⟨ha, hn, by unfold osA; simp, by unfold psA; simp, fun o ho v hv => ?_, fun o ho => ?_, fun p hp => ?_, fun p hp v hv => ?_, fun q hq => ?_⟩
  · unfold osA at ho
    obtain ⟨j, _, rfl⟩ := List.mem_map.mp ho
    split at hv
    · obtain ⟨i, hi, rfl⟩ := List.mem_map.mp hv
      have := List.mem_range.mp hi
      exact s4 _ (by omega)
    · cases hv
  · unfold osA at ho
    obtain ⟨j, _, rfl⟩ := List.mem_map.mp ho
    split
    · simp; omega
    · simp
  · unfold psA at hp
    obtain ⟨j, _, rfl⟩ := List.mem_map.mp hp
    split
    · exact List.pairwise_lt_range
    · exact .nil
  · unfold psA at hp
    obtain ⟨j, _, rfl⟩ := List.mem_map.mp hp
    split at hv
    · have := List.mem_range.mp hv
      omega
    · cases hv
  · unfold osA psA at hq
    obtain ⟨j, hj, e1, e2⟩ := zip_range hq
    rw [e1, e2]
    split <;> simp
theorem ords_A (hk : k < a) (inj : Inj σ) {m : Nat} (lt : ∀ i, i ≤ c → σ i < m) (cov : ∀ v, v < m → ∃ i, i ≤ c ∧ σ i = v) : Ords a (σ 0) m (osA a k c σ) := by
  refine ⟨by unfold osA; simp, lt 0 (by omega), fun j hj => ?_, fun i j v hi hj h1 h2 => ?_, fun v hv => ?_, fun j hj v hv => ?_⟩
  · rw [gR_os hj]
    split
    · refine List.nodup_cons.mpr ⟨fun z => ?_, ?_⟩
      · obtain ⟨i, _, e⟩ := List.mem_map.mp z
        have := inj _ _ e
        omega
      · refine List.pairwise_map.mpr ((List.nodup_range (n := c)).imp fun {x y} h e => h ?_)
        have := inj _ _ e
        omega
    · exact List.nodup_cons.mpr ⟨by simp, List.nodup_nil⟩
  · rw [gR_os hi] at h1
    rw [gR_os hj] at h2
    by_cases z1 : i = k
    · by_cases z2 : j = k
      · omega
      · rw [if_neg z2] at h2; cases h2
    · rw [if_neg z1] at h1; cases h1
  · obtain ⟨i, hi, e⟩ := cov v hv
    by_cases z : i = 0
    · left
      rw [← e, z]
    · right
      refine ⟨k, hk, ?_⟩
      rw [gR_os hk, if_pos rfl]
      exact List.mem_map.mpr ⟨i - 1, List.mem_range.mpr (by omega), by rw [show i - 1 + 1 = i by omega]; exact e⟩
  · rw [gR_os hj] at hv
    split at hv
    · obtain ⟨i, hi, rfl⟩ := List.mem_map.mp hv
      have := List.mem_range.mp hi
      exact lt _ (by omega)
    · cases hv
/-- the rows are those of the canonical map -/
theorem rows_A (hc : n - 1 ≤ c ∧ c ≤ n) (hn : 1 ≤ n) : mapOf (σ 0) (rowsN n (σ 0) (osA a k c σ) (psA a k c)) = (canon a n k c).map σ := by
  have row : ∀ j, placedN n (σ 0) (if j = k then (List.range c).map (fun i => σ (i + 1)) else []) (if j = k then List.range c else []) = (armR a n k c j).map σ := fun j => by
    unfold armR
    by_cases z : j = k
    · rw [if_pos z, if_pos z, if_pos z]
      unfold placedN
      rw [List.map_map]
      refine List.map_congr_left fun i hi => ?_
      have hi := List.mem_range.mp hi
      rw [cur_at List.pairwise_lt_range (by simp)]
      have cnt : (List.range c).countP (fun x => decide (x < i + 1)) = min c (i + 1) := by
        have : ∀ d, (List.range d).countP (fun x => decide (x < i + 1)) = min d (i + 1) := fun d => by
          induction d with
          | zero => simp
          | succ d ih =>
            rw [List.range_succ, List.countP_append, ih, List.countP_cons, List.countP_nil]
            by_cases h : d < i + 1
            · rw [decide_eq_true h]; simp; omega
            · rw [decide_eq_false h]; simp; omega
        exact this c
      rw [cnt]
      show _ = σ (if i < c then i + 1 else i)
      by_cases h : i < c
      · rw [if_pos h, show min c (i + 1) = i + 1 by omega, List.getD_cons_succ, List.getD_eq_getElem?_getD, List.getElem?_map, List.getElem?_range h]
        rfl
      · have e1 : min c (i + 1) = c := by omega
        have e2 : i = c := by omega
        rw [if_neg h, e1, e2]
        cases c with
        | zero => rfl
        | succ d =>
          rw [List.getD_cons_succ, List.getD_eq_getElem?_getD, List.getElem?_map, List.getElem?_range (by omega)]
          rfl
    · rw [if_neg z, if_neg z, if_neg z]
      unfold placedN
      rw [List.map_replicate]
      have : ∀ i, curL (σ 0) [] [] i = σ 0 := fun i => by
        induction i with
        | zero => rfl
        | succ i ih => unfold curL; rw [if_neg (by simp)]; exact ih
      refine List.ext_getElem (by simp) fun i h1 h2 => ?_
      rw [List.getElem_map, List.getElem_replicate]
      exact this _
  unfold mapOf canon
  rw [List.map_cons]
  congr 1
  have e : rowsN n (σ 0) (osA a k c σ) (psA a k c) = (List.range a).map fun j => (armR a n k c j).map σ := by
    unfold rowsN osA psA
    refine List.ext_getElem (by simp) fun i h1 h2 => ?_
    rw [List.getElem_map, List.getElem_zip, List.getElem_map, List.getElem_map, List.getElem_map]
    simp only [List.getElem_range]
    exact row i
  rw [e, List.map_flatten, List.map_map]
  rfl
theorem mem34 (ha : 3 ≤ a ∧ a ≤ 4) : a ∈ [3, 4] := by simp; omega
theorem mem14 (hn : 1 ≤ n ∧ n ≤ 4) : n ∈ [1, 2, 3, 4] := by simp; omega
theorem mem24 (hn : 2 ≤ n ∧ n ≤ 4) : n ∈ [2, 3, 4] := by simp; omega
theorem rdy_canon (ha : 3 ≤ a ∧ a ≤ 4) (hn : 1 ≤ n ∧ n ≤ 4) (hk : k < a) (inj : Inj σ) {h : Nat} (hh : h ≤ n) : rdy a n ((canon a n k h).map σ) ((canon a n k h).map σ).length = (rdy a n (canon a n k h) (canon a n k h).length).map fun t => (σ t.1, t.2) := by
  have cl := canon_len a (mem34 ha) n (mem14 hn) k (List.mem_range.mpr hk) h (List.mem_range.mpr (by omega))
  refine rdy_map inj fun c hc p hp => ?_
  rw [cl] at hc ⊢
  exact canon_nbr a (mem34 ha) n (mem14 hn) c (List.mem_range.mpr hc) p hp
/-- the tight map: alone in its class -/
theorem tight_path (ha : 3 ≤ a ∧ a ≤ 4) (hn : 1 ≤ n ∧ n ≤ 4) (hk : k < a) (inj : Inj σ) {m : Nat} (V : Valid a n m ((canon a n k n).map σ)) : Pth a n m (fun _ => (canon a n k n).map σ) 1 := by
  have no : rdy a n ((canon a n k n).map σ) ((canon a n k n).map σ).length = [] := by
    rw [rdy_canon ha hn hk inj (Nat.le_refl _), canon_tight a (mem34 ha) n (mem14 hn) k (List.mem_range.mpr hk)]
    rfl
  refine ⟨by omega, by omega, fun _ _ => V, fun i j h1 h2 => by omega, fun i _ t ht => ?_, fun i hi => by omega⟩
  rw [no] at ht
  cases ht
/-- the map with one land less: a path -/
theorem other_path (ha : 3 ≤ a ∧ a ≤ 4) (hn : 2 ≤ n ∧ n ≤ 4) (hk : k < a) (inj : Inj σ) {m : Nat} (V : Valid a n m ((canon a n k (n - 1)).map σ)) : Pth a n m (fun i => (canon a n k (n - 1 - i)).map σ) n := by
  have hn1 : 1 ≤ n ∧ n ≤ 4 := by omega
  have rd : ∀ i, i < n → rdy a n ((canon a n k (n - 1 - i)).map σ) ((canon a n k (n - 1 - i)).map σ).length = (rdy a n (canon a n k (n - 1 - i)) (canon a n k (n - 1 - i)).length).map fun t => (σ t.1, t.2) := fun i hi => rdy_canon ha hn1 hk inj (by omega)
  have ex : ∀ i, i + 1 < n → ∃ t ∈ rdy a n ((canon a n k (n - 1 - i)).map σ) ((canon a n k (n - 1 - i)).map σ).length, step ((canon a n k (n - 1 - i)).map σ) t = (canon a n k (n - 1 - (i + 1))).map σ := fun i hi => by
    have := canon_ex a (mem34 ha) n (mem24 hn) k (List.mem_range.mpr hk) i (List.mem_range.mpr (by omega))
    obtain ⟨t, h1, h2⟩ := List.any_eq_true.mp this
    have h2 := of_decide_eq_true h2
    refine ⟨(σ t.1, t.2), ?_, ?_⟩
    · rw [rd i (by omega)]
      exact List.mem_map.mpr ⟨t, h1, rfl⟩
    · rw [step_map, h2]
  have ok : ∀ i, i < n → Valid a n m ((canon a n k (n - 1 - i)).map σ) := fun i => by
    induction i with
    | zero => intro _; exact V
    | succ i ih =>
      intro hi
      have Vi := ih (by omega)
      obtain ⟨t, h1, h2⟩ := ex i hi
      obtain ⟨k1, k2, k3⟩ := rdy_ok Vi h1
      rw [← h2]
      exact Vi.step k2 k3
  refine ⟨by omega, by omega, ok, fun i j hij hj e => ?_, fun i hi t ht => ?_, ex⟩
  · exact canon_ne a (mem34 ha) n (mem24 hn) k (List.mem_range.mpr hk) j (List.mem_range.mpr hj) i (List.mem_range.mpr hij) (map_injL inj e)
  · rw [rd i hi] at ht
    obtain ⟨u, hu, rfl⟩ := List.mem_map.mp ht
    have := canon_go a (mem34 ha) n (mem24 hn) k (List.mem_range.mpr hk) i (List.mem_range.mpr hi) u hu
    rw [step_map]
    rcases this with ⟨h1, h2⟩ | ⟨h1, h2⟩
    · left
      exact ⟨h1, by rw [h2]⟩
    · right
      exact ⟨h1, by rw [h2]⟩
/-- the takings of the map with one land less: one -/
theorem other_takings (ha : 3 ≤ a ∧ a ≤ 4) (hn : 2 ≤ n ∧ n ≤ 4) (hk : k < a) (inj : Inj σ) {m : Nat} (V : Valid a n m ((canon a n k (n - 1)).map σ)) : p_takings [ch a ((canon a n k (n - 1)).map σ)] = some (.tuple [tkD (σ (n - 2), 1 + k * n + (n - 2))]) := by
  obtain ⟨T, e, p⟩ := takings V
  rw [rdy_canon ha (by omega) hk inj (by omega), canon_first a (mem34 ha) n (mem24 hn) k (List.mem_range.mpr hk)] at p
  have : T = [(σ (n - 2), 1 + k * n + (n - 2))] := List.perm_singleton.mp p
  rw [this] at e
  exact e
theorem tight_takings (ha : 3 ≤ a ∧ a ≤ 4) (hn : 1 ≤ n ∧ n ≤ 4) (hk : k < a) (inj : Inj σ) {m : Nat} (V : Valid a n m ((canon a n k n).map σ)) : p_takings [ch a ((canon a n k n).map σ)] = some (.tuple []) := by
  obtain ⟨T, e, p⟩ := takings V
  rw [rdy_canon ha hn hk inj (Nat.le_refl _), canon_tight a (mem34 ha) n (mem14 hn) k (List.mem_range.mpr hk)] at p
  have : T = [] := List.perm_nil.mp p
  rw [this] at e
  exact e
end
end S89

/-! no map, where the lands left are not the first ones; the order that the law draws -/
namespace S89
open PySem PD
section
variable {a n k : Nat} {σ : Nat → Nat}
theorem canon_has : ∀ a ∈ [3, 4], ∀ n ∈ [2, 3, 4], ∀ k ∈ List.range a, ∀ j ∈ List.range n, j ∈ canon a n k (n - 1) := by decide +kernel
theorem canon_all : ∀ a ∈ [3, 4], ∀ n ∈ [2, 3, 4], ∀ k ∈ List.range a, ∀ x ∈ canon a n k (n - 1), x < n := by decide +kernel
theorem no_other (ha : 3 ≤ a ∧ a ≤ 4) (hn : 2 ≤ n ∧ n ≤ 4) (hk : k < a) (inj : Inj σ) (lt : ∀ i, i ≤ n → σ i ≤ n) (cov : ∀ v, v ≤ n → ∃ i, i ≤ n ∧ σ i = v) (ne : σ n ≠ n) :
    p_from_orders [iN n, iN (σ 0), .tuple ((osA a k (n - 1) σ).map tN), .tuple ((psA a k (n - 1)).map tN)] = some .none := by
  have O := ord_A (k := k) (c := n - 1) (σ := σ) ha (n := n) (by omega) (by omega) fun i hi => by have := lt i (by omega); omega
  have R := Rw.of (h := σ 0) O
  obtain ⟨b, qb, ib⟩ := chart_eval (R.shp (h := σ 0))
  have e := from_orders (h := σ 0) O (by have := lt 0 (by omega); omega) (b := b) qb
  have cs := rows_A (a := a) (n := n) (k := k) (c := n - 1) (σ := σ) (by omega) (by omega)
  have hb : b = false := by
    cases b with
    | false => rfl
    | true =>
      exfalso
      obtain ⟨_, _, all⟩ := ib.mp rfl
      rw [cs] at all
      obtain ⟨j, hj, ej⟩ := cov n (Nat.le_refl _)
      have jn : j ≠ n := fun z => ne (by rw [← z]; rw [ej]; exact z.symm)
      have inn : n ∈ (canon a n k (n - 1)).map σ := by
        have := List.mem_map_of_mem (f := σ) (canon_has a (mem34 ha) n (mem24 hn) k (List.mem_range.mpr hk) j (List.mem_range.mpr (by omega)))
        rw [ej] at this
        exact this
      have mx := le_maxN inn
      have sn := lt n (Nat.le_refl _)
      obtain ⟨r, h1, _, h3, _⟩ := all (σ n) (by omega)
      have := ca_mem h1
      rw [h3] at this
      obtain ⟨x, hx, ex⟩ := List.mem_map.mp this
      have := inj _ _ ex
      have := canon_all a (mem34 ha) n (mem24 hn) k (List.mem_range.mpr hk) x hx
      omega
  rw [e, hb]
  rfl
/-! ### the order -/
def nam (n : Nat) (ord : List Nat) (i : Nat) : Nat := if i < n + 1 then ord.getD i 0 else i + 5
structure Drawn (n : Nat) (ord : List Nat) : Prop where
  hn : 1 ≤ n ∧ n ≤ 4
  len : ord.length = n + 1
  nd : ord.Nodup
  lt : ∀ v ∈ ord, v < n + 1
theorem Drawn.get {ord : List Nat} (D : Drawn n ord) {i : Nat} (hi : i ≤ n) : ord[i]? = some (nam n ord i) := by
  unfold nam
  have : i < ord.length := by rw [D.len]; omega
  rw [if_pos (by omega), List.getD_eq_getElem?_getD, List.getElem?_eq_getElem this]
  rfl
theorem Drawn.le {ord : List Nat} (D : Drawn n ord) {i : Nat} (hi : i ≤ n) : nam n ord i ≤ n := by
  have := D.lt _ (List.mem_of_getElem? (D.get hi))
  omega
theorem Drawn.inj {ord : List Nat} (D : Drawn n ord) : Inj (nam n ord) := fun i j e => by
  have hn := D.hn
  by_cases hi : i ≤ n
  · by_cases hj : j ≤ n
    · have e1 := D.get hi
      have e2 := D.get hj
      rw [← e] at e2
      exact (List.getElem?_inj (by rw [D.len]; omega) D.nd).mp (e1.trans e2.symm)
    · have := D.le hi
      have e3 : nam n ord j = j + 5 := by unfold nam; rw [if_neg (by omega)]
      omega
  · have e3 : nam n ord i = i + 5 := by unfold nam; rw [if_neg (by omega)]
    by_cases hj : j ≤ n
    · have := D.le hj
      omega
    · have e4 : nam n ord j = j + 5 := by unfold nam; rw [if_neg (by omega)]
      omega
theorem Drawn.cov {ord : List Nat} (D : Drawn n ord) {v : Nat} (hv : v ≤ n) : ∃ i, i ≤ n ∧ nam n ord i = v := by
  have hm : v ∈ ord := Classical.byContradiction fun no => by
    have := nodup_leN (a := v :: ord) (b := List.range (n + 1)) (List.nodup_cons.mpr ⟨no, D.nd⟩) fun x hx => by
      rcases List.mem_cons.mp hx with rfl | hx
      · exact List.mem_range.mpr (by omega)
      · exact List.mem_range.mpr (D.lt x hx)
    rw [List.length_cons, D.len, List.length_range] at this
    omega
  obtain ⟨i, hi, e⟩ := List.getElem_of_mem hm
  rw [D.len] at hi
  have g := D.get (i := i) (by omega)
  rw [List.getElem?_eq_getElem (by rw [D.len]; exact hi), e] at g
  exact ⟨i, by omega, (Option.some.inj g).symm⟩
theorem Drawn.drop {ord : List Nat} (D : Drawn n ord) : ord.drop 1 = (List.range n).map fun i => nam n ord (i + 1) := by
  refine List.ext_getElem? fun i => ?_
  rw [List.getElem?_drop, List.getElem?_map]
  by_cases hi : i < n
  · rw [List.getElem?_range hi, Nat.add_comm 1 i, D.get (by omega)]
    rfl
  · rw [List.getElem?_eq_none (by rw [D.len]; omega), List.getElem?_eq_none (by rw [List.length_range]; omega)]
    rfl
theorem Drawn.drop2 {ord : List Nat} (D : Drawn n ord) : (ord.drop 1).take (n - 1) = (List.range (n - 1)).map fun i => nam n ord (i + 1) := by
  rw [D.drop, ← List.map_take, List.take_range, Nat.min_eq_left (by omega)]
end
section
variable {ns : List Int}
theorem order_loop {r : List PyData} {a n : Nat} (hn : 1 ≤ n ∧ n ≤ 4) (hr : RowI ns r) (Sc : PyData) :
    ∃ r' ord left x6 x7, l1_law [.dat Sc, .own r, .dat (iN a), .dat (iN n), .dat (.list []), .dat (lN (List.range (n + 1))), .un, .un, .un, .un, .un, .un, .un, .un, .un] =
      some (.nx, [.dat Sc, .own r', .dat (iN a), .dat (iN n), .dat (lN ord), .dat (lN left), x6, x7, .un, .un, .un, .un, .un, .un, .un]) ∧ RowI ns r' ∧ Drawn n ord := by
  let st : List PyData → List Nat → List Nat → Sl → Sl → Ev := fun q o l x y => [.dat Sc, .own q, .dat (iN a), .dat (iN n), .dat (lN o), .dat (lN l), x, y, .un, .un, .un, .un, .un, .un, .un]
  have hi : sRg1 (sCons (s2 fAdd (sV 3) (sC (.int 1))) sNil) (st r [] (List.range (n + 1)) .un .un) = some ((List.range (n + 1)).map iN, st r [] (List.range (n + 1)) .un .un) := by
    refine sRg1_small ?_ (by omega)
    show sCons (s2 fAdd (sV 3) (sC (.int 1))) sNil [.dat Sc, .own r, .dat (iN a), .dat (iN n), .dat (lN []), .dat (lN (List.range (n + 1))), .un, .un, .un, .un, .un, .un, .un, .un, .un] = some (_, [.dat Sc, .own r, .dat (iN a), .dat (iN n), .dat (lN []), .dat (lN (List.range (n + 1))), .un, .un, .un, .un, .un, .un, .un, .un, .un])
    obtain ⟨L, hL⟩ : ∃ Z, Z = lN (List.range (n + 1)) := ⟨_, rfl⟩
    rw [← hL]
    simp [bodyP, bodyI, startE, startI, sSeq, sRet, sAsg, sExp, sIfS, sNx, sV, sB, sC, PD.s2, toT, sTr, truth, bne_dec, sChain, sAnd, sOr, sNot, sIf, tAnd', tOr', tNot', sNil, sCons, sCall, allD, sN, allR, PD.res, sTup, sLst, sFr, gN, gT, gsNil, gsCons, sIsi, tyName, isSub, sOrE, sM1, sM1T, fAdd_int, fSub, fLe, fLt, fGt, fGe, eq_int, ne_int, cont?, setCont, List.replicate, fLen, sOwn, sApp]
  have loop : ∃ ρ', l1_law (st r [] (List.range (n + 1)) .un .un) = some (.nx, ρ') ∧ ∃ q ord left x y, ρ' = st q ord left x y ∧ RowI ns q ∧ Cut (List.range (n + 1)) ((List.range (n + 1)).map iN).length ord left := by
    refine sFor_inv (items := (List.range (n + 1)).map iN) (ρ1 := st r [] (List.range (n + 1)) .un .un) (fun i ρ => ∃ q ord left x y, ρ = st q ord left x y ∧ RowI ns q ∧ Cut (List.range (n + 1)) i ord left) hi ⟨r, [], List.range (n + 1), .un, .un, rfl, hr, Cut.zero List.nodup_range⟩ ?_
    rintro i d ρ hd ⟨r1, ord, left, x, y, rfl, hr1, C⟩
    have hi : i < n + 1 := by
      have := (List.getElem?_eq_some_iff.mp hd).1
      rw [List.length_map, List.length_range] at this
      exact this
    have hll := C.lenl
    rw [List.length_range] at hll
    obtain ⟨one, r2, e1, hx, hr2⟩ := pick (f := iN) hr1 (by omega : 0 < left.length) (by omega)
    have C2 := C.next hx
    have e2 : c1_law [.dat Sc, .own r2, .dat (iN a), .dat (iN n), .dat (lN ord), .dat (lN left), .dat d, .dat (iN one), .un, .un, .un, .un, .un, .un, .un] = some ((left.filter fun y => !decide (y = one)).map iN, [.dat Sc, .own r2, .dat (iN a), .dat (iN n), .dat (lN ord), .dat (lN left), .dat d, .dat (iN one), .un, .un, .un, .un, .un, .un, .un]) := by
      refine sComp_on left iN iN _ (by simp [bodyP, bodyI, startE, startI, sSeq, sRet, sAsg, sExp, sIfS, sNx, sV, sB, sC, PD.s2, toT, sTr, truth, bne_dec, sChain, sAnd, sOr, sNot, sIf, tAnd', tOr', tNot', sNil, sCons, sCall, allD, sN, allR, PD.res, sTup, sLst, sFr, gN, gT, gsNil, gsCons, sIsi, tyName, isSub, sOrE, sM1, sM1T, fAdd_int, fSub, fLe, fLt, fGt, fGe, eq_int, ne_int, cont?, setCont, List.replicate, fLen, sOwn, sApp, sSq]) rfl (by omega) rfl fun y hy => ⟨_, rfl, rfl, ?_, ?_⟩
      · simp [bodyP, bodyI, startE, startI, sSeq, sRet, sAsg, sExp, sIfS, sNx, sV, sB, sC, PD.s2, toT, sTr, truth, bne_dec, sChain, sAnd, sOr, sNot, sIf, tAnd', tOr', tNot', sNil, sCons, sCall, allD, sN, allR, PD.res, sTup, sLst, sFr, gN, gT, gsNil, gsCons, sIsi, tyName, isSub, sOrE, sM1, sM1T, fAdd_int, fSub, fLe, fLt, fGt, fGe, eq_int, ne_int, cont?, setCont, List.replicate, fLen, sOwn, sApp, wipeE]
        omega
      · simp [bodyP, bodyI, startE, startI, sSeq, sRet, sAsg, sExp, sIfS, sNx, sV, sB, sC, PD.s2, toT, sTr, truth, bne_dec, sChain, sAnd, sOr, sNot, sIf, tAnd', tOr', tNot', sNil, sCons, sCall, allD, sN, allR, PD.res, sTup, sLst, sFr, gN, gT, gsNil, gsCons, sIsi, tyName, isSub, sOrE, sM1, sM1T, fAdd_int, fSub, fLe, fLt, fGt, fGe, eq_int, ne_int, cont?, setCont, List.replicate, fLen, sOwn, sApp, wipeE]
    have q : fAdd (.list (ord.map iN)) (.list [iN one]) = some (lN (ord ++ [one])) := fAdd_list (by have := C.len; simp; omega) (by simp)
    refine ⟨st r1 ord left (.dat d) y, .nx, st r2 (ord ++ [one]) (left.filter fun y => !decide (y = one)) (.dat d) (.dat (iN one)), rfl, ?_, .inl rfl, _, _, _, _, _, rfl, hr2, C2⟩
    show b1_law [.dat Sc, .own r1, .dat (iN a), .dat (iN n), .dat (lN ord), .dat (lN left), .dat d, y, .un, .un, .un, .un, .un, .un, .un] = some (Fl.nx, [.dat Sc, .own r2, .dat (iN a), .dat (iN n), .dat (lN (ord ++ [one])), .dat (lN (left.filter fun y => !decide (y = one))), .dat d, .dat (iN one), .un, .un, .un, .un, .un, .un, .un])
    obtain ⟨L, hL⟩ : ∃ L, L = left.map iN := ⟨_, rfl⟩
    obtain ⟨M, hM⟩ : ∃ M, M = (left.filter fun y => !decide (y = one)).map iN := ⟨_, rfl⟩
    obtain ⟨S, hS⟩ : ∃ S, S = ord.map iN := ⟨_, rfl⟩
    obtain ⟨S', hS'⟩ : ∃ S', S' = (ord ++ [one]).map iN := ⟨_, rfl⟩
    unfold lN at q e2 ⊢
    rw [← hM, ← hL, ← hS] at e2
    rw [← hS, ← hS'] at q
    rw [← hL] at e1
    rw [← hM, ← hL, ← hS, ← hS']
    unfold b1_law
    simp [bodyP, bodyI, startE, startI, sSeq, sRet, sAsg, sExp, sIfS, sNx, sV, sB, sC, PD.s2, toT, sTr, truth, bne_dec, sChain, sAnd, sOr, sNot, sIf, tAnd', tOr', tNot', sNil, sCons, sCall, allD, sN, allR, PD.res, sTup, sLst, sFr, gN, gT, gsNil, gsCons, sIsi, tyName, isSub, sOrE, sM1, sM1T, fAdd_int, fSub, fLe, fLt, fGt, fGe, eq_int, ne_int, cont?, setCont, List.replicate, fLen, sOwn, sApp, sCallI, e1, e2, q, sLst]
  obtain ⟨ρ', e, q, ord, left, x, y, rfl, h1, C⟩ := loop
  rw [List.length_map, List.length_range] at C
  exact ⟨q, ord, left, x, y, e, h1, hn, C.len, C.nd, fun v hv => List.mem_range.mp (C.sub v hv)⟩
end
end S89

/-! the law's rows -/
namespace S89
open PySem PD
section
variable {a n k : Nat} {ord : List Nat}
/-- where the law's comprehensions stand -/
def Er (Sc : PyData) (r : List PyData) (a n k : Nat) (ord : List Nat) (s5 s6 s7 s9 s10 s11 s12 s13 : Sl) : Ev := [.dat Sc, .own r, .dat (iN a), .dat (iN n), .dat (.list (ord.map iN)), s5, s6, s7, .dat (iN k), s9, s10, s11, s12, s13, .un]
variable {Sc : PyData} {r : List PyData} {s5 s6 s7 s9 s10 s11 s12 s13 : Sl}
theorem lines_comp (ha : 3 ≤ a ∧ a ≤ 4) (D : Drawn n ord) : c2_law (Er Sc r a n k ord s5 s6 s7 s9 s10 s11 s12 s13) = some ((osA a k n (nam n ord)).map tN, Er Sc r a n k ord s5 s6 s7 s9 s10 s11 s12 s13) := by
  unfold osA Er
  rw [List.map_map]
  have dr := D.drop
  have hn := D.hn
  have cut : cutD (ord.map iN) (some 1) none = ((List.range n).map fun i => nam n ord (i + 1)).map iN := by
    rw [← dr, List.map_drop]
    exact cut_lo _ 1 (by rw [List.length_map, D.len]; omega)
  refine sComp_all (List.range a) iN _ (sRg1_small (by simp [bodyP, bodyI, startE, startI, sSeq, sRet, sAsg, sExp, sIfS, sNx, sV, sB, sC, PD.s2, toT, sTr, truth, bne_dec, sChain, sAnd, sOr, sNot, sIf, tAnd', tOr', tNot', sNil, sCons, sCall, allD, sN, allR, PD.res, sTup, sLst, sFr, gN, gT, gsNil, gsCons, sIsi, tyName, isSub, sOrE, sM1, sM1T, fAdd_int, fSub, fLe, fLt, fGt, fGe, eq_int, ne_int, cont?, setCont, List.replicate, fLen, sOwn, sApp]) (by omega)) rfl (by simp; omega) rfl fun j hj => ⟨_, rfl, rfl, ?_⟩
  show _ = some (Ob.d (tN (if j = k then (List.range n).map (fun i => nam n ord (i + 1)) else [])), _)
  obtain ⟨O, hO⟩ : ∃ Z, Z = ord.map iN := ⟨_, rfl⟩
  obtain ⟨L, hL⟩ : ∃ Z, Z = ((List.range n).map fun i => nam n ord (i + 1)).map iN := ⟨_, rfl⟩
  rw [← hO, ← hL] at cut
  rw [← hO]
  by_cases h : j = k
  · have hz : (j : Int) = (k : Int) := by omega
    rw [if_pos h]
    show _ = some (Ob.d (.tuple (((List.range n).map fun i => nam n ord (i + 1)).map iN)), _)
    rw [← hL]
    simp [bodyP, bodyI, startE, startI, sSeq, sRet, sAsg, sExp, sIfS, sNx, sV, sB, sC, PD.s2, toT, sTr, truth, bne_dec, sChain, sAnd, sOr, sNot, sIf, tAnd', tOr', tNot', sNil, sCons, sCall, allD, sN, allR, PD.res, sTup, sLst, sFr, gN, gT, gsNil, gsCons, sIsi, tyName, isSub, sOrE, sM1, sM1T, fAdd_int, fSub, fLe, fLt, fGt, fGe, eq_int, ne_int, cont?, setCont, List.replicate, fLen, sOwn, sApp, wipeE, hz, sSl, fSl, pSome, pNone, cut, fTupOf]
  · have hz : ¬ (j : Int) = (k : Int) := by omega
    rw [if_neg h]
    simp [bodyP, bodyI, startE, startI, sSeq, sRet, sAsg, sExp, sIfS, sNx, sV, sB, sC, PD.s2, toT, sTr, truth, bne_dec, sChain, sAnd, sOr, sNot, sIf, tAnd', tOr', tNot', sNil, sCons, sCall, allD, sN, allR, PD.res, sTup, sLst, sFr, gN, gT, gsNil, gsCons, sIsi, tyName, isSub, sOrE, sM1, sM1T, fAdd_int, fSub, fLe, fLt, fGt, fGe, eq_int, ne_int, cont?, setCont, List.replicate, fLen, sOwn, sApp, wipeE, hz]
theorem less_comp (ha : 3 ≤ a ∧ a ≤ 4) (D : Drawn n ord) : c4_law (Er Sc r a n k ord s5 s6 s7 s9 s10 s11 s12 s13) = some ((osA a k (n - 1) (nam n ord)).map tN, Er Sc r a n k ord s5 s6 s7 s9 s10 s11 s12 s13) := by
  unfold osA Er
  rw [List.map_map]
  have dr := D.drop2
  have hn := D.hn
  have cut : cutD (ord.map iN) (some 1) (some (n : Int)) = ((List.range (n - 1)).map fun i => nam n ord (i + 1)).map iN := by
    rw [← dr, List.map_take, List.map_drop]
    exact cut_mid _ 1 n (by omega) (by rw [List.length_map, D.len]; omega)
  refine sComp_all (List.range a) iN _ (sRg1_small (by simp [bodyP, bodyI, startE, startI, sSeq, sRet, sAsg, sExp, sIfS, sNx, sV, sB, sC, PD.s2, toT, sTr, truth, bne_dec, sChain, sAnd, sOr, sNot, sIf, tAnd', tOr', tNot', sNil, sCons, sCall, allD, sN, allR, PD.res, sTup, sLst, sFr, gN, gT, gsNil, gsCons, sIsi, tyName, isSub, sOrE, sM1, sM1T, fAdd_int, fSub, fLe, fLt, fGt, fGe, eq_int, ne_int, cont?, setCont, List.replicate, fLen, sOwn, sApp]) (by omega)) rfl (by simp; omega) rfl fun j hj => ⟨_, rfl, rfl, ?_⟩
  show _ = some (Ob.d (tN (if j = k then (List.range (n - 1)).map (fun i => nam n ord (i + 1)) else [])), _)
  obtain ⟨O, hO⟩ : ∃ Z, Z = ord.map iN := ⟨_, rfl⟩
  obtain ⟨L, hL⟩ : ∃ Z, Z = ((List.range (n - 1)).map fun i => nam n ord (i + 1)).map iN := ⟨_, rfl⟩
  rw [← hO, ← hL] at cut
  rw [← hO]
  by_cases h : j = k
  · have hz : (j : Int) = (k : Int) := by omega
    rw [if_pos h]
    show _ = some (Ob.d (.tuple (((List.range (n - 1)).map fun i => nam n ord (i + 1)).map iN)), _)
    rw [← hL]
    simp [bodyP, bodyI, startE, startI, sSeq, sRet, sAsg, sExp, sIfS, sNx, sV, sB, sC, PD.s2, toT, sTr, truth, bne_dec, sChain, sAnd, sOr, sNot, sIf, tAnd', tOr', tNot', sNil, sCons, sCall, allD, sN, allR, PD.res, sTup, sLst, sFr, gN, gT, gsNil, gsCons, sIsi, tyName, isSub, sOrE, sM1, sM1T, fAdd_int, fSub, fLe, fLt, fGt, fGe, eq_int, ne_int, cont?, setCont, List.replicate, fLen, sOwn, sApp, wipeE, hz, sSl, fSl, pSome, pNone, cut, fTupOf]
  · have hz : ¬ (j : Int) = (k : Int) := by omega
    rw [if_neg h]
    simp [bodyP, bodyI, startE, startI, sSeq, sRet, sAsg, sExp, sIfS, sNx, sV, sB, sC, PD.s2, toT, sTr, truth, bne_dec, sChain, sAnd, sOr, sNot, sIf, tAnd', tOr', tNot', sNil, sCons, sCall, allD, sN, allR, PD.res, sTup, sLst, sFr, gN, gT, gsNil, gsCons, sIsi, tyName, isSub, sOrE, sM1, sM1T, fAdd_int, fSub, fLe, fLt, fGt, fGe, eq_int, ne_int, cont?, setCont, List.replicate, fLen, sOwn, sApp, wipeE, hz]
theorem rangeD_nat (z : Int) (c : Nat) (h : z = (c : Int)) : rangeD 0 z = (List.range c).map iN := by
  unfold rangeD
  rw [h, show ((c : Int) - 0).toNat = c by omega]
  exact List.map_congr_left fun i _ => by rw [Int.zero_add]
theorem places_comp (ha : 3 ≤ a ∧ a ≤ 4) (hn : n ≤ 4) : c3_law (Er Sc r a n k ord s5 s6 s7 s9 s10 s11 s12 s13) = some ((psA a k n).map tN, Er Sc r a n k ord s5 s6 s7 s9 s10 s11 s12 s13) := by
  unfold psA Er
  rw [List.map_map]
  refine sComp_all (List.range a) iN _ (sRg1_small (by simp [bodyP, bodyI, startE, startI, sSeq, sRet, sAsg, sExp, sIfS, sNx, sV, sB, sC, PD.s2, toT, sTr, truth, bne_dec, sChain, sAnd, sOr, sNot, sIf, tAnd', tOr', tNot', sNil, sCons, sCall, allD, sN, allR, PD.res, sTup, sLst, sFr, gN, gT, gsNil, gsCons, sIsi, tyName, isSub, sOrE, sM1, sM1T, fAdd_int, fSub, fLe, fLt, fGt, fGe, eq_int, ne_int, cont?, setCont, List.replicate, fLen, sOwn, sApp]) (by omega)) rfl (by simp; omega) rfl fun j hj => ⟨_, rfl, rfl, ?_⟩
  show _ = some (Ob.d (tN (if j = k then List.range n else [])), _)
  have ok : rgOkB 0 (n : Int) = true := decide_eq_true (by omega)
  have e := rangeD_nat (n : Int) n rfl
  obtain ⟨O, hO⟩ : ∃ Z, Z = ord.map iN := ⟨_, rfl⟩
  obtain ⟨L, hL⟩ : ∃ Z, Z = (List.range n).map iN := ⟨_, rfl⟩
  rw [← hL] at e
  rw [← hO]
  by_cases h : j = k
  · have hz : (j : Int) = (k : Int) := by omega
    rw [if_pos h]
    show _ = some (Ob.d (.tuple ((List.range n).map iN)), _)
    rw [← hL]
    simp [bodyP, bodyI, startE, startI, sSeq, sRet, sAsg, sExp, sIfS, sNx, sV, sB, sC, PD.s2, toT, sTr, truth, bne_dec, sChain, sAnd, sOr, sNot, sIf, tAnd', tOr', tNot', sNil, sCons, sCall, allD, sN, allR, PD.res, sTup, sLst, sFr, gN, gT, gsNil, gsCons, sIsi, tyName, isSub, sOrE, sM1, sM1T, fAdd_int, fSub, fLe, fLt, fGt, fGe, eq_int, ne_int, cont?, setCont, List.replicate, fLen, sOwn, sApp, wipeE, hz, sTupRg, sR1, ok, e]
  · have hz : ¬ (j : Int) = (k : Int) := by omega
    rw [if_neg h]
    simp [bodyP, bodyI, startE, startI, sSeq, sRet, sAsg, sExp, sIfS, sNx, sV, sB, sC, PD.s2, toT, sTr, truth, bne_dec, sChain, sAnd, sOr, sNot, sIf, tAnd', tOr', tNot', sNil, sCons, sCall, allD, sN, allR, PD.res, sTup, sLst, sFr, gN, gT, gsNil, gsCons, sIsi, tyName, isSub, sOrE, sM1, sM1T, fAdd_int, fSub, fLe, fLt, fGt, fGe, eq_int, ne_int, cont?, setCont, List.replicate, fLen, sOwn, sApp, wipeE, hz]
theorem short_comp {cc : SI} (hc : cc = sComp (sRg1 (sCons (sV 2) sNil)) (gN 14) tYes' (sIf (toT (s2 fEq (sV 14) (sV 8))) (sTupRg (sR1 (s2 fSub (sV 3) (sC (.int 1))))) (sTup sNil)) [14]) (ha : 3 ≤ a ∧ a ≤ 4) (hn : 1 ≤ n ∧ n ≤ 4) : cc (Er Sc r a n k ord s5 s6 s7 s9 s10 s11 s12 s13) = some ((psA a k (n - 1)).map tN, Er Sc r a n k ord s5 s6 s7 s9 s10 s11 s12 s13) := by
  subst hc
  unfold psA Er
  rw [List.map_map]
  refine sComp_all (List.range a) iN _ (sRg1_small (by simp [bodyP, bodyI, startE, startI, sSeq, sRet, sAsg, sExp, sIfS, sNx, sV, sB, sC, PD.s2, toT, sTr, truth, bne_dec, sChain, sAnd, sOr, sNot, sIf, tAnd', tOr', tNot', sNil, sCons, sCall, allD, sN, allR, PD.res, sTup, sLst, sFr, gN, gT, gsNil, gsCons, sIsi, tyName, isSub, sOrE, sM1, sM1T, fAdd_int, fSub, fLe, fLt, fGt, fGe, eq_int, ne_int, cont?, setCont, List.replicate, fLen, sOwn, sApp]) (by omega)) rfl (by simp; omega) rfl fun j hj => ⟨_, rfl, rfl, ?_⟩
  show _ = some (Ob.d (tN (if j = k then List.range (n - 1) else [])), _)
  have ok : rgOkB 0 ((n : Int) - 1) = true := decide_eq_true (by omega)
  have e := rangeD_nat ((n : Int) - 1) (n - 1) (by omega)
  obtain ⟨O, hO⟩ : ∃ Z, Z = ord.map iN := ⟨_, rfl⟩
  obtain ⟨L, hL⟩ : ∃ Z, Z = (List.range (n - 1)).map iN := ⟨_, rfl⟩
  rw [← hL] at e
  rw [← hO]
  by_cases h : j = k
  · have hz : (j : Int) = (k : Int) := by omega
    rw [if_pos h]
    show _ = some (Ob.d (.tuple ((List.range (n - 1)).map iN)), _)
    rw [← hL]
    simp [bodyP, bodyI, startE, startI, sSeq, sRet, sAsg, sExp, sIfS, sNx, sV, sB, sC, PD.s2, toT, sTr, truth, bne_dec, sChain, sAnd, sOr, sNot, sIf, tAnd', tOr', tNot', sNil, sCons, sCall, allD, sN, allR, PD.res, sTup, sLst, sFr, gN, gT, gsNil, gsCons, sIsi, tyName, isSub, sOrE, sM1, sM1T, fAdd_int, fSub, fLe, fLt, fGt, fGe, eq_int, ne_int, cont?, setCont, List.replicate, fLen, sOwn, sApp, wipeE, hz, sTupRg, sR1, ok, e]
  · have hz : ¬ (j : Int) = (k : Int) := by omega
    rw [if_neg h]
    simp [bodyP, bodyI, startE, startI, sSeq, sRet, sAsg, sExp, sIfS, sNx, sV, sB, sC, PD.s2, toT, sTr, truth, bne_dec, sChain, sAnd, sOr, sNot, sIf, tAnd', tOr', tNot', sNil, sCons, sCall, allD, sN, allR, PD.res, sTup, sLst, sFr, gN, gT, gsNil, gsCons, sIsi, tyName, isSub, sOrE, sM1, sM1T, fAdd_int, fSub, fLe, fLt, fGt, fGe, eq_int, ne_int, cont?, setCont, List.replicate, fLen, sOwn, sApp, wipeE, hz]
end
end S89

/-! the law -/
namespace S89
open PySem PD
theorem ne_ords (o : List (List Nat)) : fNe (.tuple (o.map tN)) (.tuple (o.map tN)) = some (.bool false) := by
  have := ne_toD (α := PySem.W.Tup (PySem.W.Tup Nat)) ⟨o.map fun x => ⟨x⟩⟩ ⟨o.map fun x => ⟨x⟩⟩
  rw [decide_eq_true rfl] at this
  rw [ords_toD]
  exact this
theorem eq_one (s c : Nat) : fEq (.tuple [tkD (s, c)]) (.tuple [.tuple [iN s, iN c]]) = some (.bool true) := by
  have := eq_toD (α := PySem.W.Tup (Nat × Nat)) ⟨[(s, c)]⟩ ⟨[(s, c)]⟩
  rw [decide_eq_true rfl] at this
  exact this
theorem lens_A {a k c : Nat} {σ : Nat → Nat} : (osA a k c σ).map List.length = (List.range a).map fun j => if j = k then c else 0 := by
  unfold osA
  rw [List.map_map]
  refine List.map_congr_left fun j _ => ?_
  show (if j = k then (List.range c).map (fun i => σ (i + 1)) else []).length = _
  split <;> simp
theorem bare_two : ∀ a ∈ [3, 4], ∀ k ∈ List.range a, ∀ c ∈ [1, 2, 3, 4], 2 ≤ ((List.range a).map fun j => if j = k then c else 0).count 0 := by decide +kernel
section
variable {a n k : Nat} {ord : List Nat}
/-- all that the law asks of the tight map -/
structure Tgt (a n k : Nat) (ord : List Nat) (C : PyData) : Prop where
  from_ : p_from_orders [iN n, iN (nam n ord 0), .tuple ((osA a k n (nam n ord)).map tN), .tuple ((psA a k n).map tN)] = some C
  some_ : fIs C .none = some (.bool false)
  tak : p_takings [C] = some (.tuple [])
  size : p_class_size [C] = some (iN 1)
  far : p_farthest [C] = some (iN 0)
  froz : p_is_frozen [C] = some (.bool true)
  own : p_own_lands [C] = some .none
  ords : p_orders [C] = some (.tuple ((osA a k n (nam n ord)).map tN))
  plcs : p_border_places [C] = some (.tuple ((psA a k n).map tN))
  lnds : ∃ L, p_lands_on [C] = some L ∧ fIx L (iN k) = some (iN n)
  ars : ∃ A, p_areas [C] = some A ∧ fIx A (iN (nam n ord 0)) = some (iN ((a - 1) * n + 1)) ∧ (n = 1 → fIx A (iN (nam n ord 1)) = some (iN 1))
theorem tgt_map (ha : 3 ≤ a ∧ a ≤ 4) (D : Drawn n ord) (hk : k < a) : ∃ C, Tgt a n k ord C := by
  have hn := D.hn
  obtain ⟨σ, hσ⟩ : ∃ z, z = nam n ord := ⟨_, rfl⟩
  have inj : Inj σ := by rw [hσ]; exact D.inj
  have le : ∀ i, i ≤ n → σ i ≤ n := fun i hi => by rw [hσ]; exact D.le hi
  have O := ord_A (k := k) (c := n) (σ := σ) ha hn (Nat.le_refl _) fun i hi => by have := le i hi; omega
  have Ds := ords_A (a := a) (k := k) (c := n) (σ := σ) (m := n + 1) hk inj (fun i hi => by have := le i hi; omega) fun v hv => by rw [hσ]; exact D.cov (by omega)
  obtain ⟨f1, V, f3, f4⟩ := from_valid O Ds (by omega)
  have cs := rows_A (a := a) (n := n) (k := k) (c := n) (σ := σ) (by omega) (by omega)
  rw [cs] at f1 V f3 f4
  have P := tight_path ha hn hk inj V
  have b2 : 2 ≤ bare a n ((canon a n k n).map σ) := by
    unfold bare
    rw [f3, lens_A]
    exact bare_two a (mem34 ha) k (List.mem_range.mpr hk) n (mem14 hn)
  have fz := is_frozen V
  rw [decide_eq_true b2] at fz
  have ow := own_lands V
  rw [if_pos b2] at ow
  have os := orders V
  rw [f3] at os
  have pl := border_places V
  rw [f4] at pl
  have ln := lands_on V
  rw [f3, lens_A] at ln
  have ar := areas V
  have s0 : σ 0 < n + 1 := by have := le 0 (by omega); omega
  have tt := tight_takings ha hn hk inj V
  have cz := class_size P
  have fr := farthest P
  have sm : fIs (ch a ((canon a n k n).map σ)) .none = some (.bool false) := rfl
  subst hσ
  refine ⟨ch a ((canon a n k n).map (nam n ord)), f1, sm, tt, cz, fr, fz, ow, os, pl, ⟨_, ln, ?_⟩, ⟨_, ar, ?_, fun h1 => ?_⟩⟩
  · refine (ix_map (f := iN) ?_).2
    rw [List.getElem?_map, List.getElem?_range hk]
    show some (if k = k then n else 0) = _
    rw [if_pos rfl]
  · refine (ix_map (f := iN) ?_).2
    rw [List.getElem?_map, List.getElem?_range s0]
    show some (((canon a n k n).map (nam n ord)).count (nam n ord 0)) = _
    rw [count_inj inj, canon_count a (mem34 ha) n (mem14 hn) k (List.mem_range.mpr hk)]
  · subst h1
    have s1 : nam 1 ord 1 < 2 := by have := le 1 (by omega); omega
    refine (ix_map (f := iN) ?_).2
    rw [List.getElem?_map, List.getElem?_range s1]
    show some (((canon a 1 k 1).map (nam 1 ord)).count (nam 1 ord 1)) = _
    rw [count_inj inj, canon_count1 a (mem34 ha) k (List.mem_range.mpr hk)]
/-- all that the law asks of the map with one land less -/
structure Oth (a n k : Nat) (ord : List Nat) (C : PyData) : Prop where
  from_ : p_from_orders [iN n, iN (nam n ord 0), .tuple ((osA a k (n - 1) (nam n ord)).map tN), .tuple ((psA a k (n - 1)).map tN)] = some C
  some_ : fIs C .none = some (.bool false)
  tak : p_takings [C] = some (.tuple [tkD (nam n ord (n - 2), 1 + k * n + (n - 2))])
  size : p_class_size [C] = some (iN n)
  far : p_farthest [C] = some (iN (n - 1))
theorem oth_map (ha : 3 ≤ a ∧ a ≤ 4) (D : Drawn n ord) (hn2 : 2 ≤ n) (hk : k < a) (e : nam n ord n = n) : ∃ C, Oth a n k ord C := by
  have hn := D.hn
  obtain ⟨σ, hσ⟩ : ∃ z, z = nam n ord := ⟨_, rfl⟩
  have inj : Inj σ := by rw [hσ]; exact D.inj
  rw [← hσ] at e
  have lt : ∀ i, i ≤ n - 1 → σ i < n := fun i hi => by
    have h1 : σ i ≤ n := by rw [hσ]; exact D.le (by omega)
    have h2 : σ i ≠ n := fun z => by
      have := inj i n (by rw [z, e])
      omega
    omega
  have O := ord_A (k := k) (c := n - 1) (σ := σ) ha hn (by omega) fun i hi => by have := lt i hi; omega
  have Ds := ords_A (a := a) (k := k) (c := n - 1) (σ := σ) (m := n) hk inj lt fun v hv => by
    obtain ⟨i, hi, ei⟩ := D.cov (v := v) (by omega)
    rw [← hσ] at ei
    refine ⟨i, ?_, ei⟩
    have : i ≠ n := fun z => by
      rw [z, e] at ei
      omega
    omega
  obtain ⟨f1, V, f3, f4⟩ := from_valid O Ds (by omega)
  have cs := rows_A (a := a) (n := n) (k := k) (c := n - 1) (σ := σ) (by omega) (by omega)
  rw [cs] at f1 V f3 f4
  have P := other_path ha ⟨hn2, hn.2⟩ hk inj V
  have c1 := class_size P
  have c2 := farthest P
  have tk := other_takings ha ⟨hn2, hn.2⟩ hk inj V
  rw [Nat.sub_zero] at c1 c2
  have sm : fIs (ch a ((canon a n k (n - 1)).map σ)) .none = some (.bool false) := rfl
  subst hσ
  exact ⟨ch a ((canon a n k (n - 1)).map (nam n ord)), f1, sm, tk, c1, c2⟩
end
end S89

/-! the law -/
namespace S89
open PySem PD
theorem math (ns : List Int) (h : ns.length ≤ 63) (hb : ∀ z ∈ ns, Builtin.Int.intBits z ≤ 1048576) : p_law [.list (ns.map PyData.int)] = some (.bool true) := by
  have r0 : RowI ns [.list (ns.map .int), .int 0, .int 13989, .int 0] := ⟨0, 13989, 0, by omega, rfl⟩
  obtain ⟨v1, r1, e1, h1, r1k⟩ := taken (many := 2) r0 (by omega) (by omega)
  obtain ⟨v2, r2, e2, h2, r2k⟩ := taken (many := 4) r1k (by omega) (by omega)
  obtain ⟨a, hA⟩ : ∃ z, z = 3 + v1 := ⟨_, rfl⟩
  obtain ⟨n, hN⟩ : ∃ z, z = 1 + v2 := ⟨_, rfl⟩
  have ha : 3 ≤ a ∧ a ≤ 4 := by omega
  have hn : 1 ≤ n ∧ n ≤ 4 := by omega
  have i1 : (3 : Int) + (v1 : Int) = (a : Int) := by omega
  have i2 : (1 : Int) + (v2 : Int) = (n : Int) := by omega
  obtain ⟨Sc, hSc⟩ : ∃ Z, Z = PyData.list (ns.map .int) := ⟨_, rfl⟩
  rw [← hSc] at e1 ⊢
  obtain ⟨r3, ord, left, x6, x7, lp, r3k, D⟩ := order_loop (a := a) hn r2k Sc
  obtain ⟨k, r4, e4, hk, r4k⟩ := taken (many := a) r3k (by omega) (by omega)
  have e1' : p__law_taken [Sc, .int 0, .int 13989, .int 0] [.int 2] = some (iN v1, r1) := e1
  have e2' : p__law_taken r1 [.int 4] = some (iN v2, r2) := e2
  obtain ⟨C, T⟩ := tgt_map (k := k) ha D hk
  have c2 := lines_comp (k := k) (Sc := Sc) (r := r4) (s5 := .dat (lN left)) (s6 := x6) (s7 := x7) (s9 := .un) (s10 := .un) (s11 := .un) (s12 := .un) (s13 := .un) ha D
  have c3 := places_comp (n := n) (k := k) (ord := ord) (Sc := Sc) (r := r4) (s5 := .dat (lN left)) (s6 := x6) (s7 := x7) (s9 := .dat (.tuple ((osA a k n (nam n ord)).map tN))) (s10 := .un) (s11 := .un) (s12 := .un) (s13 := .un) ha hn.2
  have c4 := less_comp (k := k) (Sc := Sc) (r := r4) (s5 := .dat (lN left)) (s6 := x6) (s7 := x7) (s9 := .dat (.tuple ((osA a k n (nam n ord)).map tN))) (s10 := .dat (.tuple ((psA a k n).map tN))) (s11 := .dat C) (s12 := .un) (s13 := .un) ha D
  have c5 := short_comp (cc := c5_law) (n := n) (k := k) (ord := ord) (Sc := Sc) (r := r4) (s5 := .dat (lN left)) (s6 := x6) (s7 := x7) (s9 := .dat (.tuple ((osA a k n (nam n ord)).map tN))) (s10 := .dat (.tuple ((psA a k n).map tN))) (s11 := .dat C) (s12 := .dat (.tuple ((osA a k (n - 1) (nam n ord)).map tN))) (s13 := .un) rfl ha hn
  have c6 := short_comp (cc := c6_law) (n := n) (k := k) (ord := ord) (Sc := Sc) (r := r4) (s5 := .dat (lN left)) (s6 := x6) (s7 := x7) (s9 := .dat (.tuple ((osA a k n (nam n ord)).map tN))) (s10 := .dat (.tuple ((psA a k n).map tN))) (s11 := .dat C) (s12 := .dat (.tuple ((osA a k (n - 1) (nam n ord)).map tN))) (s13 := .un) rfl ha hn
  unfold Er at c2 c3 c4 c5 c6
  have rok : rgOkB 0 ((n : Int) + 1) = true := decide_eq_true (by omega)
  have rg := rangeD_nat ((n : Int) + 1) (n + 1) (by omega)
  have o0 : fIx (.list (ord.map iN)) (.int 0) = some (iN (nam n ord 0)) := (ix_map (f := iN) (D.get (i := 0) (by omega))).1
  have o1 : fIx (.list (ord.map iN)) (.int 1) = some (iN (nam n ord 1)) := (ix_map (f := iN) (D.get (i := 1) (by omega))).1
  have on : fIx (.list (ord.map iN)) (iN n) = some (iN (nam n ord n)) := (ix_map (f := iN) (D.get (i := n) (by omega))).1
  obtain ⟨L, ln1, ln2⟩ := T.lnds
  obtain ⟨A, ar1, ar2, ar3⟩ := T.ars
  have t1 := T.from_
  have t2 := T.some_
  have t3 := T.tak
  have t4 := T.size
  have t5 := T.far
  have t6 := T.froz
  have t7 := T.own
  have t8 := T.ords
  have t9 := T.plcs
  have nO := ne_ords (osA a k n (nam n ord))
  have nP := ne_ords (psA a k n)
  have nN : fNe (.tuple []) (.tuple []) = some (.bool false) := rfl
  have iN1 : fIsNot .none .none = some (.bool false) := rfl
  have mu : fMul (.int ((a : Int) - 1)) (iN n) = some (.int (((a : Int) - 1) * (n : Int))) := fMul_small _ _ (by omega)
  have aN : (((a - 1) * n + 1 : Nat) : Int) = ((a : Int) - 1) * (n : Int) + 1 := by
    rw [Int.natCast_add, Int.natCast_mul, Int.ofNat_sub (by omega)]
    rfl
  obtain ⟨P1, hP1⟩ : ∃ z, z = ((a : Int) - 1) * (n : Int) := ⟨_, rfl⟩
  obtain ⟨P2, hP2⟩ : ∃ z, z = (a - 1) * n + 1 := ⟨_, rfl⟩
  rw [← hP1] at mu aN
  rw [← hP2] at ar2 aN
  obtain ⟨Od, hOd⟩ : ∃ Z, Z = ord.map iN := ⟨_, rfl⟩
  obtain ⟨Lf, hLf⟩ : ∃ Z, Z = left.map iN := ⟨_, rfl⟩
  obtain ⟨R0, hR0⟩ : ∃ Z, Z = (List.range (n + 1)).map iN := ⟨_, rfl⟩
  obtain ⟨Os, hOs⟩ : ∃ Z, Z = (osA a k n (nam n ord)).map tN := ⟨_, rfl⟩
  obtain ⟨Ps, hPs⟩ : ∃ Z, Z = (psA a k n).map tN := ⟨_, rfl⟩
  obtain ⟨Ol, hOl⟩ : ∃ Z, Z = (osA a k (n - 1) (nam n ord)).map tN := ⟨_, rfl⟩
  obtain ⟨Pl, hPl⟩ : ∃ Z, Z = (psA a k (n - 1)).map tN := ⟨_, rfl⟩
  change l1_law [.dat Sc, .own r2, .dat (iN a), .dat (iN n), .dat (.list []), .dat (.list ((List.range (n + 1)).map iN)), .un, .un, .un, .un, .un, .un, .un, .un, .un] = some (.nx, [.dat Sc, .own r3, .dat (iN a), .dat (iN n), .dat (.list (ord.map iN)), .dat (.list (left.map iN)), x6, x7, .un, .un, .un, .un, .un, .un, .un]) at lp
  unfold lN at c2 c3 c4 c5 c6
  rw [← hOd, ← hLf, ← hR0] at lp
  rw [← hR0] at rg
  rw [← hOd, ← hLf, ← hOs] at c2
  rw [← hOd, ← hLf, ← hOs, ← hPs] at c3
  rw [← hOd, ← hLf, ← hOs, ← hPs, ← hOl] at c4
  rw [← hOd, ← hLf, ← hOs, ← hPs, ← hOl, ← hPl] at c5 c6
  rw [← hOd] at o0 o1 on
  rw [← hOs] at t1 t8 nO
  rw [← hPs] at t1 t9 nP
  by_cases n1 : n = 1
  · have ar3' := ar3 n1
    have nz : decide ((n : Int) = 1) = true := decide_eq_true (by omega)
    unfold p_law g_law
    simp [bodyP, bodyI, startE, startI, sSeq, sRet, sAsg, sExp, sIfS, sNx, sV, sB, sC, PD.s2, toT, sTr, truth, bne_dec, sChain, sAnd, sOr, sNot, sIf, tAnd', tOr', tNot', sNil, sCons, sCall, allD, sN, allR, PD.res, sTup, sLst, sFr, gN, gT, gsNil, gsCons, sIsi, tyName, isSub, sOrE, sM1, sM1T, fAdd_int, fSub, fLe, fLt, fGt, fGe, eq_int, ne_int, cont?, setCont, List.replicate, fLen, sOwn, sApp, sLst, sCallI, e1', i1, e2', i2, sLstRg, sR1, rok, rg, lp, e4, c2, c3, fTupOf, o0, t1, t2, t3, nN, t4, t5, t6, t7, iN1, fIsNot, isNone, t8, nO, t9, nP, ln1, ln2, ar1, ar2, mu, aN, nz, o1, ar3']
  · have nz : ¬ (n : Int) = 1 := by omega
    by_cases hs : nam n ord n = n
    · obtain ⟨C2, U⟩ := oth_map (k := k) ha D (by omega) hk hs
      have u1 := U.from_
      have u2 := U.some_
      have u3 := U.tak
      have u4 := U.size
      have u5 := U.far
      rw [← hOl, ← hPl] at u1
      rw [hs] at on
      have hm1 : ((n - 1 : Nat) : Int) = (n : Int) - 1 := by omega
      have mk : fMul (iN k) (iN n) = some (.int ((k : Int) * (n : Int))) := fMul_small _ _ (by omega)
      have cz : (1 : Int) + (k : Int) * (n : Int) + (n : Int) - 2 = ((1 + k * n + (n - 2) : Nat) : Int) := by
        rw [Int.natCast_add, Int.natCast_add, Int.natCast_mul, Int.ofNat_sub (by omega)]
        omega
      have eo := eq_one (nam n ord (n - 2)) (1 + k * n + (n - 2))
      obtain ⟨M, hM⟩ : ∃ z, z = (k : Int) * (n : Int) := ⟨_, rfl⟩
      obtain ⟨cl, hcl⟩ : ∃ z, z = 1 + k * n + (n - 2) := ⟨_, rfl⟩
      obtain ⟨sl, hsl⟩ : ∃ z, z = nam n ord (n - 2) := ⟨_, rfl⟩
      rw [← hM] at mk cz
      rw [← hcl] at cz eo u3
      rw [← hsl] at eo u3
      obtain ⟨G, hG⟩ : ∃ z, z = tkD (sl, cl) := ⟨_, rfl⟩
      rw [← hG] at eo u3
      by_cases n2 : 2 < n
      · have n2z : (2 : Int) < (n : Int) := by omega
        have o2 : fIx (.list Od) (.int ((n : Int) - 2)) = some (iN sl) := by
          have := (ix_map (f := iN) (D.get (i := n - 2) (by omega))).1
          rw [← hOd, ← hsl] at this
          rw [show (n : Int) - 2 = ((n - 2 : Nat) : Int) by omega]
          exact this
        unfold p_law g_law
        simp [bodyP, bodyI, startE, startI, sSeq, sRet, sAsg, sExp, sIfS, sNx, sV, sB, sC, PD.s2, toT, sTr, truth, bne_dec, sChain, sAnd, sOr, sNot, sIf, tAnd', tOr', tNot', sNil, sCons, sCall, allD, sN, allR, PD.res, sTup, sLst, sFr, gN, gT, gsNil, gsCons, sIsi, tyName, isSub, sOrE, sM1, sM1T, fAdd_int, fSub, fLe, fLt, fGt, fGe, eq_int, ne_int, cont?, setCont, List.replicate, fLen, sOwn, sApp, sLst, sCallI, e1', i1, e2', i2, sLstRg, sR1, rok, rg, lp, e4, c2, c3, fTupOf, o0, t1, t2, t3, nN, t4, t5, t6, t7, iN1, fIsNot, isNone, t8, nO, t9, nP, ln1, ln2, ar1, ar2, mu, aN, nz, c4, on, c6, u1, u2, u4, u5, hm1, u3, n2z, o2, mk, cz, eo]
      · have n2z : ¬ (2 : Int) < (n : Int) := by omega
        have nn : n - 2 = 0 := by omega
        rw [nn] at hsl
        rw [← hsl] at o0 t1 u1 ar2
        unfold p_law g_law
        simp [bodyP, bodyI, startE, startI, sSeq, sRet, sAsg, sExp, sIfS, sNx, sV, sB, sC, PD.s2, toT, sTr, truth, bne_dec, sChain, sAnd, sOr, sNot, sIf, tAnd', tOr', tNot', sNil, sCons, sCall, allD, sN, allR, PD.res, sTup, sLst, sFr, gN, gT, gsNil, gsCons, sIsi, tyName, isSub, sOrE, sM1, sM1T, fAdd_int, fSub, fLe, fLt, fGt, fGe, eq_int, ne_int, cont?, setCont, List.replicate, fLen, sOwn, sApp, sLst, sCallI, e1', i1, e2', i2, sLstRg, sR1, rok, rg, lp, e4, c2, c3, fTupOf, o0, t1, t2, t3, nN, t4, t5, t6, t7, iN1, fIsNot, isNone, t8, nO, t9, nP, ln1, ln2, ar1, ar2, mu, aN, nz, c4, on, c6, u1, u2, u4, u5, hm1, u3, n2z, mk, cz, eo]
    · have no := no_other (σ := nam n ord) ha ⟨by omega, hn.2⟩ hk D.inj (fun i hi => D.le hi) (fun v hv => D.cov hv) hs
      rw [← hOl, ← hPl] at no
      have hz : ¬ ((nam n ord n : Nat) : Int) = (n : Int) := by omega
      have ii : fIs .none .none = some (.bool true) := rfl
      unfold p_law g_law
      simp [bodyP, bodyI, startE, startI, sSeq, sRet, sAsg, sExp, sIfS, sNx, sV, sB, sC, PD.s2, toT, sTr, truth, bne_dec, sChain, sAnd, sOr, sNot, sIf, tAnd', tOr', tNot', sNil, sCons, sCall, allD, sN, allR, PD.res, sTup, sLst, sFr, gN, gT, gsNil, gsCons, sIsi, tyName, isSub, sOrE, sM1, sM1T, fAdd_int, fSub, fLe, fLt, fGt, fGe, eq_int, ne_int, cont?, setCont, List.replicate, fLen, sOwn, sApp, sLst, sCallI, e1', i1, e2', i2, sLstRg, sR1, rok, rg, lp, e4, c2, c3, fTupOf, o0, t1, t2, t3, nN, t4, t5, t6, t7, iN1, fIsNot, isNone, t8, nO, t9, nP, ln1, ln2, ar1, ar2, mu, aN, nz, c4, on, hz, c5, no, ii]
end S89

open PySem PySem.W PyProof.Rows PD
set_option maxRecDepth 100000 in
set_option maxHeartbeats 0 in
theorem PySem.Challenge.cw_starlands_k89_across_tight_maps_holds : PySem.Challenge.rw_starlands_k89_across_tight_maps.Holds := by
  w_on; o_law; k_head; (case hw => w_witness2)
  k_fill
  refine PD.walk_ofG (l := PySem.Challenge.rw_starlands_k89_across_tight_maps) (n := 63) (k := 12) (x := "script") (CX := fun _ => L2.CX0) rfl (by decide) rfl ⟨rfl, by decide, by decide⟩ (fun w h Y => PySem.W.kIn_of Y) ?F (fun _ _ _ _ _ h => h)
  intro w mg fa h Y KX G hmg tab
  refine' withDk (x := "_law_taken") (st := S89.st__law_taken) (ps := ["row", "many"]) KX G ?a0 ?l0 ?c0 ?k0 (fun _ _ _ _ _ _ us hl => match us, hl with | [_, _], _ => rfl) ?next0
  (case a0 => k_is); (case l0 => k_is); (case c0 => k_is); (case k0 => k_is)
  intro f__law_taken fd__law_taken D__law_taken
  refine' withDk (x := "is_whole") (st := S89.st_is_whole) (ps := ["value"]) KX G ?a1 ?l1 ?c1 ?k1 (fun _ _ _ _ _ _ us hl => match us, hl with | [_], _ => rfl) ?next1
  (case a1 => k_is); (case l1 => k_is); (case c1 => k_is); (case k1 => k_is)
  intro f_is_whole fd_is_whole D_is_whole
  refine' withDk (x := "is_integer") (st := S89.st_is_integer) (ps := ["value", "low", "high"]) KX G ?a2 ?l2 ?c2 ?k2 (fun _ _ _ _ _ _ us hl => match us, hl with | [_, _, _], _ => rfl) ?next2
  (case a2 => k_is); (case l2 => k_is); (case c2 => k_is); (case k2 => k_is)
  intro f_is_integer fd_is_integer D_is_integer
  refine' withDd (x := "check_length") (st := S89.st_check_length) (ps := ["length", "most"]) (dvs := [L2.V.int (4)]) KX G ?a3 ?l3 ?c3 ?k3 ?lt3 ?hs3 ?b3 ?hv3 ?e3 ?next3
  (case a3 => k_is); (case l3 => k_is); (case c3 => k_is); (case k3 => k_is); (case lt3 => k_is); (case hs3 => rfl); (case b3 => exact (fun _ _ _ _ _ _ us hl => match us, hl with | [_, _], _ => ⟨_, rfl, rfl⟩)); (case hv3 => exact (.cons ⟨_, rfl⟩ .nil)); (case e3 => exact (by intro _ _ _ _ _ _ us hl; have h1 : us.length = 1 := (by simpa using hl); exact (match us, h1 with | [_], _ => ⟨_, rfl, rfl⟩)))
  intro f_check_length fd_check_length D_check_length
  refine' withDk (x := "check_hub") (st := S89.st_check_hub) (ps := ["hub"]) KX G ?a4 ?l4 ?c4 ?k4 (fun _ _ _ _ _ _ us hl => match us, hl with | [_], _ => rfl) ?next4
  (case a4 => k_is); (case l4 => k_is); (case c4 => k_is); (case k4 => k_is)
  intro f_check_hub fd_check_hub D_check_hub
  refine' withDk (x := "joined_map") (st := S89.st_joined_map) (ps := ["hub", "rows"]) KX G ?a5 ?l5 ?c5 ?k5 (fun _ _ _ _ _ _ us hl => match us, hl with | [_, _], _ => rfl) ?next5
  (case a5 => k_is); (case l5 => k_is); (case c5 => k_is); (case k5 => k_is)
  intro f_joined_map fd_joined_map D_joined_map
  refine' withDg (x := "are_integers") (st := S89.st_are_integers) (ps := ["value", "low", "high"]) KX G tab (by decide +kernel) ?a6 ?l6 ?c6 ?k6 ?lc6 ?h116 ?nP6 (fun _ _ _ _ _ _ us hl => match us, hl with | [_, _, _], _ => rfl) ?next6
  (case a6 => k_is); (case l6 => k_is); (case c6 => k_is); (case k6 => k_is); (case lc6 => k_is); (case h116 => rfl); (case nP6 => kernel_rfl)
  intro f_are_integers fd_are_integers c_are_integers P_are_integers D_are_integers T1_are_integers T2_are_integers T3_are_integers
  refine' withDg (x := "are_orders") (st := S89.st_are_orders) (ps := ["value"]) KX G tab (by decide +kernel) ?a7 ?l7 ?c7 ?k7 ?lc7 ?h117 ?nP7 (fun _ _ _ _ _ _ us hl => match us, hl with | [_], _ => rfl) ?next7
  (case a7 => k_is); (case l7 => k_is); (case c7 => k_is); (case k7 => k_is); (case lc7 => k_is); (case h117 => rfl); (case nP7 => kernel_rfl)
  intro f_are_orders fd_are_orders c_are_orders P_are_orders D_are_orders T1_are_orders T2_are_orders T3_are_orders
  refine' withDk (x := "inner_cell") (st := S89.st_inner_cell) (ps := ["length", "cell"]) KX G ?a8 ?l8 ?c8 ?k8 (fun _ _ _ _ _ _ us hl => match us, hl with | [_, _], _ => rfl) ?next8
  (case a8 => k_is); (case l8 => k_is); (case c8 => k_is); (case k8 => k_is)
  intro f_inner_cell fd_inner_cell D_inner_cell
  refine' withDk (x := "hang_together") (st := S89.st_hang_together) (ps := ["length", "cells"]) KX G ?a9 ?l9 ?c9 ?k9 (fun _ _ _ _ _ _ us hl => match us, hl with | [_, _], _ => rfl) ?next9
  (case a9 => k_is); (case l9 => k_is); (case c9 => k_is); (case k9 => k_is)
  intro f_hang_together fd_hang_together D_hang_together
  refine' withDk (x := "is_pair") (st := S89.st_is_pair) (ps := ["value"]) KX G ?a10 ?l10 ?c10 ?k10 (fun _ _ _ _ _ _ us hl => match us, hl with | [_], _ => rfl) ?next10
  (case a10 => k_is); (case l10 => k_is); (case c10 => k_is); (case k10 => k_is)
  intro f_is_pair fd_is_pair D_is_pair
  refine' withDk (x := "is_chart") (st := S89.st_is_chart) (ps := ["value"]) KX G ?a11 ?l11 ?c11 ?k11 (fun _ _ _ _ _ _ us hl => match us, hl with | [_], _ => rfl) ?next11
  (case a11 => k_is); (case l11 => k_is); (case c11 => k_is); (case k11 => k_is)
  intro f_is_chart fd_is_chart D_is_chart
  refine' withDk (x := "check_chart") (st := S89.st_check_chart) (ps := ["chart"]) KX G ?a12 ?l12 ?c12 ?k12 (fun _ _ _ _ _ _ us hl => match us, hl with | [_], _ => rfl) ?next12
  (case a12 => k_is); (case l12 => k_is); (case c12 => k_is); (case k12 => k_is)
  intro f_check_chart fd_check_chart D_check_chart
  refine' withDk (x := "lands_met") (st := S89.st_lands_met) (ps := ["hub", "row"]) KX G ?a13 ?l13 ?c13 ?k13 (fun _ _ _ _ _ _ us hl => match us, hl with | [_, _], _ => rfl) ?next13
  (case a13 => k_is); (case l13 => k_is); (case c13 => k_is); (case k13 => k_is)
  intro f_lands_met fd_lands_met D_lands_met
  refine' withDk (x := "length_of") (st := S89.st_length_of) (ps := ["chart"]) KX G ?a14 ?l14 ?c14 ?k14 (fun _ _ _ _ _ _ us hl => match us, hl with | [_], _ => rfl) ?next14
  (case a14 => k_is); (case l14 => k_is); (case c14 => k_is); (case k14 => k_is)
  intro f_length_of fd_length_of D_length_of
  refine' withDk (x := "arm_rows") (st := S89.st_arm_rows) (ps := ["chart"]) KX G ?a15 ?l15 ?c15 ?k15 (fun _ _ _ _ _ _ us hl => match us, hl with | [_], _ => rfl) ?next15
  (case a15 => k_is); (case l15 => k_is); (case c15 => k_is); (case k15 => k_is)
  intro f_arm_rows fd_arm_rows D_arm_rows
  refine' withDk (x := "orders") (st := S89.st_orders) (ps := ["chart"]) KX G ?a16 ?l16 ?c16 ?k16 (fun _ _ _ _ _ _ us hl => match us, hl with | [_], _ => rfl) ?next16
  (case a16 => k_is); (case l16 => k_is); (case c16 => k_is); (case k16 => k_is)
  intro f_orders fd_orders D_orders
  refine' withDg (x := "are_places") (st := S89.st_are_places) (ps := ["value", "length", "wanted"]) KX G tab (by decide +kernel) ?a17 ?l17 ?c17 ?k17 ?lc17 ?h1117 ?nP17 (fun _ _ _ _ _ _ us hl => match us, hl with | [_, _, _], _ => rfl) ?next17
  (case a17 => k_is); (case l17 => k_is); (case c17 => k_is); (case k17 => k_is); (case lc17 => k_is); (case h1117 => rfl); (case nP17 => kernel_rfl)
  intro f_are_places fd_are_places c_are_places P_are_places D_are_places T1_are_places T2_are_places T3_are_places
  refine' withDk (x := "placed_row") (st := S89.st_placed_row) (ps := ["length", "hub", "order", "spots"]) KX G ?a18 ?l18 ?c18 ?k18 (fun _ _ _ _ _ _ us hl => match us, hl with | [_, _, _, _], _ => rfl) ?next18
  (case a18 => k_is); (case l18 => k_is); (case c18 => k_is); (case k18 => k_is)
  intro f_placed_row fd_placed_row D_placed_row
  refine' withDk (x := "from_orders") (st := S89.st_from_orders) (ps := ["length", "hub", "orders", "places"]) KX G ?a19 ?l19 ?c19 ?k19 (fun _ _ _ _ _ _ us hl => match us, hl with | [_, _, _, _], _ => rfl) ?next19
  (case a19 => k_is); (case l19 => k_is); (case c19 => k_is); (case k19 => k_is)
  intro f_from_orders fd_from_orders D_from_orders
  refine' withDk (x := "_law_pick") (st := S89.st__law_pick) (ps := ["row", "things"]) KX G ?a20 ?l20 ?c20 ?k20 (fun _ _ _ _ _ _ us hl => match us, hl with | [_, _], _ => rfl) ?next20
  (case a20 => k_is); (case l20 => k_is); (case c20 => k_is); (case k20 => k_is)
  intro f__law_pick fd__law_pick D__law_pick
  refine' withDk (x := "can_lose") (st := S89.st_can_lose) (ps := ["loser", "near"]) KX G ?a21 ?l21 ?c21 ?k21 (fun _ _ _ _ _ _ us hl => match us, hl with | [_, _], _ => rfl) ?next21
  (case a21 => k_is); (case l21 => k_is); (case c21 => k_is); (case k21 => k_is)
  intro f_can_lose fd_can_lose D_can_lose
  refine' withDk (x := "ready_takings") (st := S89.st_ready_takings) (ps := ["table", "cells"]) KX G ?a22 ?l22 ?c22 ?k22 (fun _ _ _ _ _ _ us hl => match us, hl with | [_, _], _ => rfl) ?next22
  (case a22 => k_is); (case l22 => k_is); (case c22 => k_is); (case k22 => k_is)
  intro f_ready_takings fd_ready_takings D_ready_takings
  refine' withDk (x := "touching_cells") (st := S89.st_touching_cells) (ps := ["arms", "length", "cell"]) KX G ?a23 ?l23 ?c23 ?k23 (fun _ _ _ _ _ _ us hl => match us, hl with | [_, _, _], _ => rfl) ?next23
  (case a23 => k_is); (case l23 => k_is); (case c23 => k_is); (case k23 => k_is)
  intro f_touching_cells fd_touching_cells D_touching_cells
  refine' withDk (x := "touch_table") (st := S89.st_touch_table) (ps := ["chart"]) KX G ?a24 ?l24 ?c24 ?k24 (fun _ _ _ _ _ _ us hl => match us, hl with | [_], _ => rfl) ?next24
  (case a24 => k_is); (case l24 => k_is); (case c24 => k_is); (case k24 => k_is)
  intro f_touch_table fd_touch_table D_touch_table
  refine' withDk (x := "takings") (st := S89.st_takings) (ps := ["chart"]) KX G ?a25 ?l25 ?c25 ?k25 (fun _ _ _ _ _ _ us hl => match us, hl with | [_], _ => rfl) ?next25
  (case a25 => k_is); (case l25 => k_is); (case c25 => k_is); (case k25 => k_is)
  intro f_takings fd_takings D_takings
  refine' withDk (x := "made") (st := S89.st_made) (ps := ["cells", "taking"]) KX G ?a26 ?l26 ?c26 ?k26 (fun _ _ _ _ _ _ us hl => match us, hl with | [_, _], _ => rfl) ?next26
  (case a26 => k_is); (case l26 => k_is); (case c26 => k_is); (case k26 => k_is)
  intro f_made fd_made D_made
  refine' withDk (x := "steps_by") (st := S89.st_steps_by__ready_takings) (ps := ["chart", "choices"]) KX G ?a27 ?l27 ?c27 ?k27 (fun _ _ _ _ _ _ us hl => match us, hl with | [_, _], _ => rfl) ?next27
  (case a27 => k_is); (case l27 => k_is); (case c27 => k_is); (case k27 => k_is)
  intro f_steps_by fd_steps_by D_steps_by
  refine' withDk (x := "steps_from") (st := S89.st_steps_from) (ps := ["chart"]) KX G ?a28 ?l28 ?c28 ?k28 (fun _ _ _ _ _ _ us hl => match us, hl with | [_], _ => rfl) ?next28
  (case a28 => k_is); (case l28 => k_is); (case c28 => k_is); (case k28 => k_is)
  intro f_steps_from fd_steps_from D_steps_from
  refine' withDk (x := "class_size") (st := S89.st_class_size) (ps := ["chart"]) KX G ?a29 ?l29 ?c29 ?k29 (fun _ _ _ _ _ _ us hl => match us, hl with | [_], _ => rfl) ?next29
  (case a29 => k_is); (case l29 => k_is); (case c29 => k_is); (case k29 => k_is)
  intro f_class_size fd_class_size D_class_size
  refine' withDk (x := "farthest") (st := S89.st_farthest) (ps := ["chart"]) KX G ?a30 ?l30 ?c30 ?k30 (fun _ _ _ _ _ _ us hl => match us, hl with | [_], _ => rfl) ?next30
  (case a30 => k_is); (case l30 => k_is); (case c30 => k_is); (case k30 => k_is)
  intro f_farthest fd_farthest D_farthest
  refine' withDk (x := "lands_on") (st := S89.st_lands_on) (ps := ["chart"]) KX G ?a31 ?l31 ?c31 ?k31 (fun _ _ _ _ _ _ us hl => match us, hl with | [_], _ => rfl) ?next31
  (case a31 => k_is); (case l31 => k_is); (case c31 => k_is); (case k31 => k_is)
  intro f_lands_on fd_lands_on D_lands_on
  refine' withDk (x := "bare_arms") (st := S89.st_bare_arms) (ps := ["chart"]) KX G ?a32 ?l32 ?c32 ?k32 (fun _ _ _ _ _ _ us hl => match us, hl with | [_], _ => rfl) ?next32
  (case a32 => k_is); (case l32 => k_is); (case c32 => k_is); (case k32 => k_is)
  intro f_bare_arms fd_bare_arms D_bare_arms
  refine' withDk (x := "is_frozen") (st := S89.st_is_frozen) (ps := ["chart"]) KX G ?a33 ?l33 ?c33 ?k33 (fun _ _ _ _ _ _ us hl => match us, hl with | [_], _ => rfl) ?next33
  (case a33 => k_is); (case l33 => k_is); (case c33 => k_is); (case k33 => k_is)
  intro f_is_frozen fd_is_frozen D_is_frozen
  refine' withDk (x := "own_lands") (st := S89.st_own_lands) (ps := ["chart"]) KX G ?a34 ?l34 ?c34 ?k34 (fun _ _ _ _ _ _ us hl => match us, hl with | [_], _ => rfl) ?next34
  (case a34 => k_is); (case l34 => k_is); (case c34 => k_is); (case k34 => k_is)
  intro f_own_lands fd_own_lands D_own_lands
  refine' withDk (x := "places_on") (st := S89.st_places_on) (ps := ["hub", "row"]) KX G ?a35 ?l35 ?c35 ?k35 (fun _ _ _ _ _ _ us hl => match us, hl with | [_, _], _ => rfl) ?next35
  (case a35 => k_is); (case l35 => k_is); (case c35 => k_is); (case k35 => k_is)
  intro f_places_on fd_places_on D_places_on
  refine' withDk (x := "border_places") (st := S89.st_border_places) (ps := ["chart"]) KX G ?a36 ?l36 ?c36 ?k36 (fun _ _ _ _ _ _ us hl => match us, hl with | [_], _ => rfl) ?next36
  (case a36 => k_is); (case l36 => k_is); (case c36 => k_is); (case k36 => k_is)
  intro f_border_places fd_border_places D_border_places
  refine' withDk (x := "land_areas") (st := S89.st_land_areas) (ps := ["cells"]) KX G ?a37 ?l37 ?c37 ?k37 (fun _ _ _ _ _ _ us hl => match us, hl with | [_], _ => rfl) ?next37
  (case a37 => k_is); (case l37 => k_is); (case c37 => k_is); (case k37 => k_is)
  intro f_land_areas fd_land_areas D_land_areas
  refine' withDk (x := "areas") (st := S89.st_areas) (ps := ["chart"]) KX G ?a38 ?l38 ?c38 ?k38 (fun _ _ _ _ _ _ us hl => match us, hl with | [_], _ => rfl) ?next38
  (case a38 => k_is); (case l38 => k_is); (case c38 => k_is); (case k38 => k_is)
  intro f_areas fd_areas D_areas
  refine' withDk (x := "law") (st := S89.st_law) (ps := ["script"]) KX G ?a39 ?l39 ?c39 ?k39 (fun _ _ _ _ _ _ us hl => match us, hl with | [_], _ => rfl) ?next39
  (case a39 => k_is); (case l39 => k_is); (case c39 => k_is); (case k39 => k_is)
  intro f_law fd_law D_law
  refine' withC (x := "LAST_LAND") KX G ?c_LAST_LAND ?nc_LAST_LAND
  (case c_LAST_LAND => k_is)
  intro C_LAST_LAND
  refine' withC (x := "MOST_ARMS") KX G ?c_MOST_ARMS ?nc_MOST_ARMS
  (case c_MOST_ARMS => k_is)
  intro C_MOST_ARMS
  refine' withC (x := "MOST_LENGTH") KX G ?c_MOST_LENGTH ?nc_MOST_LENGTH
  (case c_MOST_LENGTH => k_is)
  intro C_MOST_LENGTH
  have B : S89.Bt mg := by
    refine' ⟨PySem.W.mg_none_of KX G ?n_all, PySem.W.mg_none_of KX G ?n_bool, PySem.W.mg_none_of KX G ?n_divmod, PySem.W.mg_none_of KX G ?n_enumerate, PySem.W.mg_none_of KX G ?n_int, PySem.W.mg_none_of KX G ?n_isinstance, PySem.W.mg_none_of KX G ?n_len, PySem.W.mg_none_of KX G ?n_list, PySem.W.mg_none_of KX G ?n_max, PySem.W.mg_none_of KX G ?n_range, PySem.W.mg_none_of KX G ?n_set, PySem.W.mg_none_of KX G ?n_sorted, PySem.W.mg_none_of KX G ?n_tuple, PySem.W.mg_none_of KX G ?n_zip, ⟨_, C_LAST_LAND⟩, ⟨_, C_MOST_ARMS⟩, ⟨_, C_MOST_LENGTH⟩⟩
    (case n_all => k_is); (case n_bool => k_is); (case n_divmod => k_is); (case n_enumerate => k_is); (case n_int => k_is); (case n_isinstance => k_is); (case n_len => k_is); (case n_list => k_is); (case n_max => k_is); (case n_range => k_is); (case n_set => k_is); (case n_sorted => k_is); (case n_tuple => k_is); (case n_zip => k_is)
  have e := hmg.symm.trans D_law.mg
  cases e
  refine lawAtS_of [(c_are_integers, P_are_integers), (c_are_orders, P_are_orders), (c_are_places, P_are_places)] S89.p_law ?kt ?_ ?_ ?_ (D_law.bindsTo fun _ _ _ _ _ _ _ => rfl) (fun ns hl hb => S89.math ns hl hb) ?_
  case kt => first | kernel_rfl | decide +kernel
  · intro p hp
    simp only [List.mem_cons, List.not_mem_nil, or_false] at hp
    rcases hp with rfl | rfl | rfl
    · exact T1_are_integers
    · exact T1_are_orders
    · exact T1_are_places
  · intro p hp
    simp only [List.mem_cons, List.not_mem_nil, or_false] at hp
    rcases hp with rfl | rfl | rfl
    · exact T2_are_integers
    · exact T2_are_orders
    · exact T2_are_places
  · intro p hp
    simp only [List.mem_cons, List.not_mem_nil, or_false] at hp
    rcases hp with rfl | rfl | rfl
    · exact T3_are_integers
    · exact T3_are_orders
    · exact T3_are_places
  · intro base KB GB hT
    have TB_are_integers := hT (c_are_integers, P_are_integers) (by simp)
    have TB_are_orders := hT (c_are_orders, P_are_orders) (by simp)
    have TB_are_places := hT (c_are_places, P_are_places) (by simp)
    have G__law_taken := S89.ok__law_taken (P := PySem.Challenge.rw_starlands_k89_across_tight_maps.prog) (w := w) (base := base) (T := [(c_are_integers, P_are_integers), (c_are_orders, P_are_orders), (c_are_places, P_are_places)].map (·.2)) D__law_taken B
    have G_is_whole := S89.ok_is_whole (P := PySem.Challenge.rw_starlands_k89_across_tight_maps.prog) (w := w) (base := base) (T := [(c_are_integers, P_are_integers), (c_are_orders, P_are_orders), (c_are_places, P_are_places)].map (·.2)) D_is_whole B
    have G_is_integer := S89.ok_is_integer (P := PySem.Challenge.rw_starlands_k89_across_tight_maps.prog) (w := w) (base := base) (T := [(c_are_integers, P_are_integers), (c_are_orders, P_are_orders), (c_are_places, P_are_places)].map (·.2)) D_is_integer B D_is_whole G_is_whole
    have G_check_length := S89.ok_check_length (P := PySem.Challenge.rw_starlands_k89_across_tight_maps.prog) (w := w) (base := base) (T := [(c_are_integers, P_are_integers), (c_are_orders, P_are_orders), (c_are_places, P_are_places)].map (·.2)) D_check_length B D_is_integer G_is_integer
    have G_check_hub := S89.ok_check_hub (P := PySem.Challenge.rw_starlands_k89_across_tight_maps.prog) (w := w) (base := base) (T := [(c_are_integers, P_are_integers), (c_are_orders, P_are_orders), (c_are_places, P_are_places)].map (·.2)) D_check_hub B D_is_integer G_is_integer
    have G_joined_map := S89.ok_joined_map (P := PySem.Challenge.rw_starlands_k89_across_tight_maps.prog) (w := w) (base := base) (T := [(c_are_integers, P_are_integers), (c_are_orders, P_are_orders), (c_are_places, P_are_places)].map (·.2)) D_joined_map B
    have G_are_integers := S89.ok_are_integers (P := PySem.Challenge.rw_starlands_k89_across_tight_maps.prog) (w := w) (base := base) (T := [(c_are_integers, P_are_integers), (c_are_orders, P_are_orders), (c_are_places, P_are_places)].map (·.2)) D_are_integers B TB_are_integers (by simp) D_is_integer G_is_integer
    have G_are_orders := S89.ok_are_orders (P := PySem.Challenge.rw_starlands_k89_across_tight_maps.prog) (w := w) (base := base) (T := [(c_are_integers, P_are_integers), (c_are_orders, P_are_orders), (c_are_places, P_are_places)].map (·.2)) D_are_orders B TB_are_orders (by simp) D_are_integers G_are_integers
    have G_inner_cell := S89.ok_inner_cell (P := PySem.Challenge.rw_starlands_k89_across_tight_maps.prog) (w := w) (base := base) (T := [(c_are_integers, P_are_integers), (c_are_orders, P_are_orders), (c_are_places, P_are_places)].map (·.2)) D_inner_cell B
    have G_hang_together := S89.ok_hang_together (P := PySem.Challenge.rw_starlands_k89_across_tight_maps.prog) (w := w) (base := base) (T := [(c_are_integers, P_are_integers), (c_are_orders, P_are_orders), (c_are_places, P_are_places)].map (·.2)) D_hang_together B D_inner_cell G_inner_cell
    have G_is_pair := S89.ok_is_pair (P := PySem.Challenge.rw_starlands_k89_across_tight_maps.prog) (w := w) (base := base) (T := [(c_are_integers, P_are_integers), (c_are_orders, P_are_orders), (c_are_places, P_are_places)].map (·.2)) D_is_pair B
    have G_is_chart := S89.ok_is_chart (P := PySem.Challenge.rw_starlands_k89_across_tight_maps.prog) (w := w) (base := base) (T := [(c_are_integers, P_are_integers), (c_are_orders, P_are_orders), (c_are_places, P_are_places)].map (·.2)) D_is_chart B D_is_pair G_is_pair D_is_integer G_is_integer D_are_integers G_are_integers D_hang_together G_hang_together
    have G_check_chart := S89.ok_check_chart (P := PySem.Challenge.rw_starlands_k89_across_tight_maps.prog) (w := w) (base := base) (T := [(c_are_integers, P_are_integers), (c_are_orders, P_are_orders), (c_are_places, P_are_places)].map (·.2)) D_check_chart B D_is_chart G_is_chart
    have G_lands_met := S89.ok_lands_met (P := PySem.Challenge.rw_starlands_k89_across_tight_maps.prog) (w := w) (base := base) (T := [(c_are_integers, P_are_integers), (c_are_orders, P_are_orders), (c_are_places, P_are_places)].map (·.2)) D_lands_met B
    have G_length_of := S89.ok_length_of (P := PySem.Challenge.rw_starlands_k89_across_tight_maps.prog) (w := w) (base := base) (T := [(c_are_integers, P_are_integers), (c_are_orders, P_are_orders), (c_are_places, P_are_places)].map (·.2)) D_length_of B
    have G_arm_rows := S89.ok_arm_rows (P := PySem.Challenge.rw_starlands_k89_across_tight_maps.prog) (w := w) (base := base) (T := [(c_are_integers, P_are_integers), (c_are_orders, P_are_orders), (c_are_places, P_are_places)].map (·.2)) D_arm_rows B D_length_of G_length_of
    have G_orders := S89.ok_orders (P := PySem.Challenge.rw_starlands_k89_across_tight_maps.prog) (w := w) (base := base) (T := [(c_are_integers, P_are_integers), (c_are_orders, P_are_orders), (c_are_places, P_are_places)].map (·.2)) D_orders B D_check_chart G_check_chart D_arm_rows G_arm_rows D_lands_met G_lands_met
    have G_are_places := S89.ok_are_places (P := PySem.Challenge.rw_starlands_k89_across_tight_maps.prog) (w := w) (base := base) (T := [(c_are_integers, P_are_integers), (c_are_orders, P_are_orders), (c_are_places, P_are_places)].map (·.2)) D_are_places B TB_are_places (by simp) D_are_integers G_are_integers
    have G_placed_row := S89.ok_placed_row (P := PySem.Challenge.rw_starlands_k89_across_tight_maps.prog) (w := w) (base := base) (T := [(c_are_integers, P_are_integers), (c_are_orders, P_are_orders), (c_are_places, P_are_places)].map (·.2)) D_placed_row B
    have G_from_orders := S89.ok_from_orders (P := PySem.Challenge.rw_starlands_k89_across_tight_maps.prog) (w := w) (base := base) (T := [(c_are_integers, P_are_integers), (c_are_orders, P_are_orders), (c_are_places, P_are_places)].map (·.2)) D_from_orders B D_check_length G_check_length D_check_hub G_check_hub D_are_orders G_are_orders D_are_places G_are_places D_placed_row G_placed_row D_joined_map G_joined_map D_lands_met G_lands_met D_is_chart G_is_chart
    have G__law_pick := S89.ok__law_pick (P := PySem.Challenge.rw_starlands_k89_across_tight_maps.prog) (w := w) (base := base) (T := [(c_are_integers, P_are_integers), (c_are_orders, P_are_orders), (c_are_places, P_are_places)].map (·.2)) D__law_pick B D__law_taken G__law_taken
    have G_can_lose := S89.ok_can_lose (P := PySem.Challenge.rw_starlands_k89_across_tight_maps.prog) (w := w) (base := base) (T := [(c_are_integers, P_are_integers), (c_are_orders, P_are_orders), (c_are_places, P_are_places)].map (·.2)) D_can_lose B
    have G_ready_takings := S89.ok_ready_takings (P := PySem.Challenge.rw_starlands_k89_across_tight_maps.prog) (w := w) (base := base) (T := [(c_are_integers, P_are_integers), (c_are_orders, P_are_orders), (c_are_places, P_are_places)].map (·.2)) D_ready_takings B D_can_lose G_can_lose
    have G_touching_cells := S89.ok_touching_cells (P := PySem.Challenge.rw_starlands_k89_across_tight_maps.prog) (w := w) (base := base) (T := [(c_are_integers, P_are_integers), (c_are_orders, P_are_orders), (c_are_places, P_are_places)].map (·.2)) D_touching_cells B D_inner_cell G_inner_cell
    have G_touch_table := S89.ok_touch_table (P := PySem.Challenge.rw_starlands_k89_across_tight_maps.prog) (w := w) (base := base) (T := [(c_are_integers, P_are_integers), (c_are_orders, P_are_orders), (c_are_places, P_are_places)].map (·.2)) D_touch_table B D_length_of G_length_of D_touching_cells G_touching_cells
    have G_takings := S89.ok_takings (P := PySem.Challenge.rw_starlands_k89_across_tight_maps.prog) (w := w) (base := base) (T := [(c_are_integers, P_are_integers), (c_are_orders, P_are_orders), (c_are_places, P_are_places)].map (·.2)) D_takings B D_check_chart G_check_chart D_ready_takings G_ready_takings D_touch_table G_touch_table
    have G_made := S89.ok_made (P := PySem.Challenge.rw_starlands_k89_across_tight_maps.prog) (w := w) (base := base) (T := [(c_are_integers, P_are_integers), (c_are_orders, P_are_orders), (c_are_places, P_are_places)].map (·.2)) D_made B
    have G_steps_by__ready_takings := S89.ok_steps_by__ready_takings (P := PySem.Challenge.rw_starlands_k89_across_tight_maps.prog) (w := w) (base := base) (T := [(c_are_integers, P_are_integers), (c_are_orders, P_are_orders), (c_are_places, P_are_places)].map (·.2)) D_steps_by B D_touch_table G_touch_table D_ready_takings G_ready_takings D_made G_made
    have G_steps_from := S89.ok_steps_from (P := PySem.Challenge.rw_starlands_k89_across_tight_maps.prog) (w := w) (base := base) (T := [(c_are_integers, P_are_integers), (c_are_orders, P_are_orders), (c_are_places, P_are_places)].map (·.2)) D_steps_from B D_ready_takings G_ready_takings D_steps_by G_steps_by__ready_takings
    have G_class_size := S89.ok_class_size (P := PySem.Challenge.rw_starlands_k89_across_tight_maps.prog) (w := w) (base := base) (T := [(c_are_integers, P_are_integers), (c_are_orders, P_are_orders), (c_are_places, P_are_places)].map (·.2)) D_class_size B D_check_chart G_check_chart D_steps_from G_steps_from
    have G_farthest := S89.ok_farthest (P := PySem.Challenge.rw_starlands_k89_across_tight_maps.prog) (w := w) (base := base) (T := [(c_are_integers, P_are_integers), (c_are_orders, P_are_orders), (c_are_places, P_are_places)].map (·.2)) D_farthest B D_check_chart G_check_chart D_steps_from G_steps_from
    have G_lands_on := S89.ok_lands_on (P := PySem.Challenge.rw_starlands_k89_across_tight_maps.prog) (w := w) (base := base) (T := [(c_are_integers, P_are_integers), (c_are_orders, P_are_orders), (c_are_places, P_are_places)].map (·.2)) D_lands_on B D_orders G_orders
    have G_bare_arms := S89.ok_bare_arms (P := PySem.Challenge.rw_starlands_k89_across_tight_maps.prog) (w := w) (base := base) (T := [(c_are_integers, P_are_integers), (c_are_orders, P_are_orders), (c_are_places, P_are_places)].map (·.2)) D_bare_arms B D_lands_on G_lands_on
    have G_is_frozen := S89.ok_is_frozen (P := PySem.Challenge.rw_starlands_k89_across_tight_maps.prog) (w := w) (base := base) (T := [(c_are_integers, P_are_integers), (c_are_orders, P_are_orders), (c_are_places, P_are_places)].map (·.2)) D_is_frozen B D_bare_arms G_bare_arms
    have G_own_lands := S89.ok_own_lands (P := PySem.Challenge.rw_starlands_k89_across_tight_maps.prog) (w := w) (base := base) (T := [(c_are_integers, P_are_integers), (c_are_orders, P_are_orders), (c_are_places, P_are_places)].map (·.2)) D_own_lands B D_check_chart G_check_chart D_is_frozen G_is_frozen D_arm_rows G_arm_rows
    have G_places_on := S89.ok_places_on (P := PySem.Challenge.rw_starlands_k89_across_tight_maps.prog) (w := w) (base := base) (T := [(c_are_integers, P_are_integers), (c_are_orders, P_are_orders), (c_are_places, P_are_places)].map (·.2)) D_places_on B
    have G_border_places := S89.ok_border_places (P := PySem.Challenge.rw_starlands_k89_across_tight_maps.prog) (w := w) (base := base) (T := [(c_are_integers, P_are_integers), (c_are_orders, P_are_orders), (c_are_places, P_are_places)].map (·.2)) D_border_places B D_check_chart G_check_chart D_arm_rows G_arm_rows D_places_on G_places_on
    have G_land_areas := S89.ok_land_areas (P := PySem.Challenge.rw_starlands_k89_across_tight_maps.prog) (w := w) (base := base) (T := [(c_are_integers, P_are_integers), (c_are_orders, P_are_orders), (c_are_places, P_are_places)].map (·.2)) D_land_areas B
    have G_areas := S89.ok_areas (P := PySem.Challenge.rw_starlands_k89_across_tight_maps.prog) (w := w) (base := base) (T := [(c_are_integers, P_are_integers), (c_are_orders, P_are_orders), (c_are_places, P_are_places)].map (·.2)) D_areas B D_check_chart G_check_chart D_land_areas G_land_areas
    have G_law := S89.ok_law (P := PySem.Challenge.rw_starlands_k89_across_tight_maps.prog) (w := w) (base := base) (T := [(c_are_integers, P_are_integers), (c_are_orders, P_are_orders), (c_are_places, P_are_places)].map (·.2)) D_law B D__law_taken G__law_taken D__law_pick G__law_pick D_from_orders G_from_orders D_takings G_takings D_class_size G_class_size D_farthest G_farthest D_is_frozen G_is_frozen D_own_lands G_own_lands D_orders G_orders D_border_places G_border_places D_lands_on G_lands_on D_areas G_areas
    exact G_law

