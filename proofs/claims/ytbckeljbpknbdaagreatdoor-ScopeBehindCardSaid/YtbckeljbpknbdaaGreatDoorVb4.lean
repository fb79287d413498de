/- Fn Fi -/
import Derived.Test.YtbckeljbpknbdaaGreatDoorVa9
import Derived.Test.YtbckeljbpknbdaaGreatDoorVb1
set_option linter.unusedVariables false
set_option linter.unusedSimpArgs false
namespace Go.Proofs.YtbckeljbpknbdaaGreatDoor
open Go.RowKit
theorem Xzo {L n : Nat} (hn : n ≤ 24) (hE : Xrw L n) : Xws L n := by
 intro w B R us h hB ho
 have hE' : ∀ (w : World) (us : List Tok), RdAt w B R L us → B ≤ w.heap.size → Calls Tryz.prog 110 #[.pointer (some ⟨R, 0, none⟩), .int .i64 (24 - (n : Nat) + 1)] w (Xaj (ExB w.heap.size) w B R L (Xah L n us)) := fun w us h hB => by
  have := hE w B R us h hB
  rw [show (24 - (n : Int) + 1) = 25 - (n : Nat) by omega]
  exact this
 obtain ⟨D, hD⟩ : ∃ D : Int, D = 24 - (n : Nat) := ⟨_, rfl⟩
 have hD0 : 0 ≤ D := by omega
 have hD1 : D ≤ 24 := by omega
 rw [← hD] at hE' ⊢
 cases us with
 | nil => exact absurd ho (by decide)
 | cons t r =>
   have hok := h.ok t (by simp)
   by_cases h1 : t.text = [116, 114, 117, 101]
   · exact Xzr h hB D hD0 hD1 hE' h1 (by unfold Xch; exact if_pos h1)
   by_cases h2 : t.text = [102, 97, 108, 115, 101]
   · exact Xvf h hB D hD0 hD1 hE' h2 (by unfold Xch; exact (if_neg h1).trans (if_pos h2))
   by_cases h3 : t.text = [110, 105, 108]
   · exact Yda h hB D hD0 hD1 hE' h3 (by unfold Xch; exact (if_neg h1).trans ((if_neg h2).trans (if_pos h3)))
   by_cases h4 : t.text = [108, 101, 110]
   · exact Ycy h hB D hD0 hD1 hE' h4 (by unfold Xch; exact (if_neg h1).trans ((if_neg h2).trans ((if_neg h3).trans (if_pos h4))))
   by_cases h5 : t.text = [109, 97, 107, 101]
   · exact Xzp h hB D hD0 hD1 hE' h5 (by unfold Xch; exact (if_neg h1).trans ((if_neg h2).trans ((if_neg h3).trans ((if_neg h4).trans (if_pos h5)))))
   by_cases h6 : t.text = [110, 101, 119]
   · exact Ycz h hB D hD0 hD1 hE' h6 (by unfold Xch; exact (if_neg h1).trans ((if_neg h2).trans ((if_neg h3).trans ((if_neg h4).trans ((if_neg h5).trans (if_pos h6))))))
   by_cases h7 : t.text = [114, 101, 108, 101, 97, 115, 101]
   · exact Xqz h hB D hD0 hD1 hE' h7 (by unfold Xch; exact (if_neg h1).trans ((if_neg h2).trans ((if_neg h3).trans ((if_neg h4).trans ((if_neg h5).trans ((if_neg h6).trans (if_pos h7)))))))
   by_cases h8 : t.text = [40]
   · have e : Xch L (Xah L n) (t :: r) = (if tx r = [45] ∨ tx r = [33] then (Xah L n r.tail).bind fun a r2 => (Xal L [[41]] r2).map fun _ => .mk 9 t.pl 0 (tx r) [a]
       else (Xah L n r).bind fun a r2 => (Xal L opsL r2).bind fun o r3 => (Xah L n r3).bind fun b r4 => (Xal L [[41]] r4).map fun _ => .mk 10 t.pl 0 o.text [a, b]) := by
      unfold Xch; exact (if_neg h1).trans ((if_neg h2).trans ((if_neg h3).trans ((if_neg h4).trans ((if_neg h5).trans ((if_neg h6).trans ((if_neg h7).trans (if_pos h8)))))))
     by_cases m1 : tx r = [45]
     · exact Xvh h hB D hD0 hD1 hE' h8 m1 (e.trans (if_pos (.inl m1)))
     by_cases m2 : tx r = [33]
     · exact Ydb h hB D hD0 hD1 hE' h8 m2 (e.trans (if_pos (.inr m2)))
     · exact Xsv h hB D hD0 hD1 hE' h8 ⟨m1, m2⟩ (e.trans (if_neg fun x => x.elim m1 m2))
   · have hne : t.text ∉ [[116, 114, 117, 101], [102, 97, 108, 115, 101], [110, 105, 108], [108, 101, 110], [109, 97, 107, 101], [110, 101, 119], [114, 101, 108, 101, 97, 115, 101], [40]] := by
      intro hm
      simp only [List.mem_cons, List.not_mem_nil, or_false] at hm
      rcases hm with e | e | e | e | e | e | e | e
      · exact h1 e
      · exact h2 e
      · exact h3 e
      · exact h4 e
      · exact h5 e
      · exact h6 e
      · exact h7 e
      · exact h8 e
     have e : Xch L (Xah L n) (t :: r) = (if t.kind = 2 then .ok (.mk 1 t.pl (numOf t.text : Nat) [] []) r else .ok (.mk 4 t.pl 0 t.text []) r) := by
      unfold Xch; exact (if_neg h1).trans ((if_neg h2).trans ((if_neg h3).trans ((if_neg h4).trans ((if_neg h5).trans ((if_neg h6).trans ((if_neg h7).trans (if_neg h8)))))))
     by_cases hk : t.kind = 2
     · exact Xsw h hB D hD0 hD1 hE' hne hk hok (e.trans (if_pos hk))
     · exact Xvg h hB D hD0 hD1 hE' hne hk hok (e.trans (if_neg hk))
theorem Xmj (L : Nat) : ∀ n : Nat, n ≤ 25 → Xrw L n
 | 0, _ => Ycs L
 | n + 1, h => Ycr (by omega) (Xmj L n (by omega)) (Xzo (by omega) (Xmj L n (by omega)))
def SmB (base : Nat) (w' : World) (x : Sm) (v : Value) : Prop := ∃ f : Vs, v = .agg #[.int .i64 x.kind, .int .i64 x.pl, .string (Xab x.name), .string (Xab x.type), f.e, f.b, f.l] ∧ SmIn w' (fun b => base ≤ b ∧ b < w'.heap.size) x f
def StmtC (L n : Nat) : Prop := ∀ (w : World) (B R : Nat) (us : List Tok), RdAt w B R L us → B ≤ w.heap.size →
 Calls Tryz.prog 84 #[.pointer (some ⟨R, 0, none⟩), .int .i64 (25 - (n : Nat))] w (Xaj (SmB w.heap.size) w B R L (Xcp L n us))
def noSm : Sm := .mk 0 0 [] [] [] [] []
def noVs : Vs := ⟨.slice none 0 0, .slice none 0 0, .slice none 0 0⟩
theorem Xbb.nil (w : World) (S : Nat → Prop) : Xbb w S [] (.slice none 0 0) := .mk [] none 0 (fun _ => undef) (Nat.le_refl _) (by omega) (fun k hk => absurd hk (by simp)) (fun k hk => absurd hk (by simp))
theorem Xay.nil (w : World) (S : Nat → Prop) : Xay w S [] (.slice none 0 0) := .mk [] none 0 (fun _ => undef) (fun _ => undef) (fun _ => undef) (Nat.le_refl _) (by omega) (fun k hk => absurd hk (by simp)) (fun k hk => absurd hk (by simp)) (fun k hk => absurd hk (by simp)) (fun k hk => absurd hk (by simp))
theorem Ydw (w : World) (S : Nat → Prop) : SmIn w S noSm noVs := ⟨Nat.zero_le _, Nat.zero_le _, Xbb.nil w S, Xay.nil w S, Xay.nil w S⟩
theorem Xcn.none (w : World) (base : Nat) : Xcn w base (.slice none 0 0) [] := ⟨[], rfl, ⟨rfl, .inl ⟨rfl, rfl⟩⟩, fun k hk => absurd hk (by simp)⟩
theorem Xcn.keep {w w' : World} {base : Nat} {v : Value} {ss : List Sm} (h : Xcn w base v ss) (hsz : w.heap.size ≤ w'.heap.size) (hk : ∀ b, b < w.heap.size → base ≤ b → w'.heap[b]? = w.heap[b]?) : Xcn w' base v ss := by
 obtain ⟨fs, hl, hown, hin⟩ := h
 refine ⟨fs, hl, ?_, fun k hk1 hk' => (hin k hk1 hk').keep (fun b hb => hk b hb.2.1 hb.1) fun b hb => ⟨hb.1, by omega, hb.2.2⟩⟩
 rcases hown with ⟨h1, h2 | ⟨g, cap, cur, hv, hbg, hg, h3⟩⟩
 · exact ⟨h1, .inl h2⟩
 · exact ⟨h1, .inr ⟨g, cap, cur, hv, hbg, (hk g (Xac hg) hbg).trans hg, h3⟩⟩
theorem Xcn.slice {w : World} {base : Nat} {v : Value} {es : List Sm} (h : Xcn w base v es) : ∃ A c, v = .slice A es.length c := by
 obtain ⟨fs, hl, hown, hin⟩ := h
 rcases hown.2 with ⟨rfl, h2⟩ | ⟨g, cap, cur, rfl, hbg, hg, hc1, hc2, _⟩
 · exact ⟨.none, 0, by rw [h2]⟩
 · exact ⟨_, cap, rfl⟩
theorem Xoa {Z Z' : World} {R lo : Nat} {v : Value} {xs : List Sm} (hR : R < lo) (h : Xcn Z lo v xs) (hc : Chg (fun b => b = R) Z Z') : Xcn Z' lo v xs :=
 h.keep hc.size fun b hb hl => hc.block b hb (by omega)
theorem Xim {ops : Array Oper} {o : Oper} {a : Act} {w : World} {K : Act → World → Prop} {Q : Exit → Act → World → Prop} {E : Prop} (hgd : o.guard = none) (s x : Operand)
  (ho : o.op = .call { callee := .builtin .append, args := #[s, x], argTypes := #[44, 44] })
  (base : Nat) (v : Value) (ss : List Sm) (hs : a.eval s = v) (hown : Xcn w base v ss) (ad : Addr) (c : Nat) (e : Sm) (u : Vs) (hx : a.eval x = .slice (some ad) 1 c)
  (hnews : ∀ j y, (Xct e u)[j]? = some y → w.cell? (ad.add j) = some y) (hu : SmIn w (fun b => base ≤ b ∧ b < w.heap.size ∧ v.ownBlock ≠ some b) e u) (hb : ss.length ≤ 1000000) (hbase : base ≤ w.heap.size)
  (h : ∀ g' c' w', Xcn w' base (.slice (some ⟨g', 0, none⟩) (ss.length + 1) c') (ss ++ [e]) → w.grownBy w' v.ownBlock → (v.ownBlock = some g' ∨ g' = w.heap.size) → K (a.put o.dst (.slice (some ⟨g', 0, none⟩) (ss.length + 1) c')) w') :
  if Region.wanted o (yielded ops a.tmps) = true then Oper.wp Tryz.prog o a w K Q else E := by
 obtain ⟨i0, hi, hz0, hz1, hz2⟩ := info_parts Ydo
 obtain ⟨fs, hl, hrow, hin⟩ := hown
 refine step_append_lies _ hgd s x 44 ho base 68 i0 _ 7 120 Tryz.underlying44 hi hz0 hz1 hz2 rfl (by decide) v ss.length (smsV ss fs) hs hrow ad 1 c (Xct e u) hx rfl hnews (Xol e u hu.2.2.1.one hu.2.2.2.1.one hu.2.2.2.2.one)
  (by omega) (by unfold maxLen; omega) (by omega) hbase w.heap.size rfl fun g cap w' hown' hgr hat hlt => h g cap w' ?_ hgr hat
 have hkeep : ∀ b, (base ≤ b ∧ b < w.heap.size ∧ v.ownBlock ≠ some b) → w'.heap[b]? = w.heap[b]? := fun b hb => hgr.block b hb.2.1 (fun e => hb.2.2 e.symm)
 have hS : ∀ b, (base ≤ b ∧ b < w.heap.size ∧ v.ownBlock ≠ some b) → (base ≤ b ∧ b < w'.heap.size ∧ (Value.slice (some ⟨g, 0, .none⟩) (ss.length + 1) cap).ownBlock ≠ some b) := fun b hb => by
  have hsz := hgr.size
  refine ⟨hb.1, by omega, fun e => ?_⟩
  have e' : g = b := by simpa [Value.ownBlock] using e
  rcases hat with hat | hat
  · exact hb.2.2 (by rw [hat, e'])
  · omega
 refine ⟨fs ++ [u], by simp [hl], ?_, fun k hk hk' => ?_⟩
 · rw [List.length_append, Xkn e u hl]
   exact hown'
 · by_cases hke : k < ss.length
   · have hkf : k < fs.length := by omega
     rw [List.getElem_append_left hke, List.getElem_append_left hkf]
     exact (hin k hke hkf).keep hkeep hS
   · have hk0 : k = ss.length := by simp at hk; omega
     subst hk0
     have e1 : (ss ++ [e])[ss.length] = e := by simp
     have e2 : (fs ++ [u])[ss.length]'hk' = u := by
      rw [List.getElem_append_right (by omega)]
      simp [hl]
     rw [e1, e2]
     exact hu.keep hkeep hS
def sevn (W : World) (g i : Nat) (a : Sm) (f : Vs) : World :=
 ((((((W.setCell ⟨g, i, none⟩ (.int .i64 a.kind)).setCell ⟨g, i + 1, none⟩ (.int .i64 a.pl)).setCell ⟨g, i + 2, none⟩ (.string (Xab a.name))).setCell ⟨g, i + 3, none⟩ (.string (Xab a.type))).setCell ⟨g, i + 4, none⟩ f.e).setCell ⟨g, i + 5, none⟩ f.b).setCell ⟨g, i + 6, none⟩ f.l
theorem Xcw (W : World) (g i : Nat) (a : Sm) (f : Vs) : Chg (fun b => b = g) W (sevn W g i a f) :=
 (((((((Chg.refl (fun x => x = g) W).setCell _ _ fun _ => rfl).setCell _ _ fun _ => rfl).setCell _ _ fun _ => rfl).setCell _ _ fun _ => rfl).setCell _ _ fun _ => rfl).setCell _ _ fun _ => rfl).setCell _ _ fun _ => rfl
theorem Yfj {l : List Value} {a b c d e f h a' b' c' d' e' f' h' : Value} {n : Nat} (hn : l.length = n) :
  (((((((l ++ [a, b, c, d, e, f, h]).set n a').set (n + 1) b').set (n + 2) c').set (n + 3) d').set (n + 4) e').set (n + 5) f').set (n + 6) h' = l ++ [a', b', c', d', e', f', h'] := by
 subst hn
 simp [List.set_append]
theorem Xuj : ∀ {xs : List Sm} {fs : List Vs}, xs.length = fs.length → (smsV xs fs).length = xs.length * 7
 | [], [], _ => rfl
 | x :: xs, f :: fs, h => by
   show (Xct x f ++ smsV xs fs).length = _
   rw [List.length_append, Xuj (by simpa using h)]
   simp [Xct]; omega
theorem Xqa {W : World} {base g m c : Nat} {xs : List Sm} {z a : Sm} {f : Vs} (hm : m = xs.length) (h : Xcn W base (.slice (some ⟨g, 0, none⟩) (m + 1) c) (xs ++ [z]))
  (hu : SmIn W (fun b => base ≤ b ∧ b < W.heap.size ∧ b ≠ g) a f) : Xcn (sevn W g (m * 7) a f) base (.slice (some ⟨g, 0, none⟩) (m + 1) c) (xs ++ [a]) := by
 subst hm
 obtain ⟨fs, hl, hown, hin⟩ := h
 have hlen : fs.length = xs.length + 1 := by rw [← hl]; simp
 obtain ⟨fs1, f0, rfl⟩ : ∃ fs1 f, fs = fs1 ++ [f] := ⟨fs.dropLast, fs.getLast (by intro e; rw [e] at hlen; simp at hlen), (List.dropLast_concat_getLast _).symm⟩
 have hl1 : xs.length = fs1.length := by simpa using hl
 have hsz : (sevn W g (xs.length * 7) a f).heap.size = W.heap.size := by simp [sevn, World.setCell]
 have hch := Xcw W g (xs.length * 7) a f
 have hne : ∀ b, (Value.slice (some ⟨g, 0, .none⟩) (xs.length + 1) c).ownBlock ≠ some b → b ≠ g := fun b h e => h (by rw [e]; rfl)
 refine ⟨fs1 ++ [f], by simp [hl1], ?_, fun k hk hk' => ?_⟩
 · rw [List.length_append, List.length_singleton] at hown ⊢
   rw [Xkn a f hl1]
   rw [Xkn z f0 hl1] at hown
   have h1 := Xcl (Xcl (Xcl (Xcl (Xcl (Xcl (Xcl hown (i := xs.length * 7) (by omega) (.int .i64 a.kind)) (i := xs.length * 7 + 1) (by omega) (.int .i64 a.pl)) (i := xs.length * 7 + 2) (by omega) (.string (Xab a.name))) (i := xs.length * 7 + 3) (by omega) (.string (Xab a.type))) (i := xs.length * 7 + 4) (by omega) f.e) (i := xs.length * 7 + 5) (by omega) f.b) (i := xs.length * 7 + 6) (by omega) f.l
   have h2 := Yfj (l := smsV xs fs1) (a := .int .i64 z.kind) (b := .int .i64 z.pl) (c := .string (Xab z.name)) (d := .string (Xab z.type)) (e := f0.e) (f := f0.b) (h := f0.l) (a' := .int .i64 a.kind) (b' := .int .i64 a.pl) (c' := .string (Xab a.name)) (d' := .string (Xab a.type)) (e' := f.e) (f' := f.b) (h' := f.l) (Xuj hl1)
   unfold Xct at h1 ⊢
   rw [h2] at h1
   exact h1
 · by_cases hke : k < xs.length
   · have hkf : k < fs1.length := by omega
     rw [List.getElem_append_left hke, List.getElem_append_left hkf]
     have h3 := hin k (by simp; omega) (by simp; omega)
     rw [List.getElem_append_left hke, List.getElem_append_left hkf] at h3
     exact h3.keep (fun b hb => hch.block b hb.2.1 (hne b hb.2.2)) fun b hb => ⟨hb.1, by rw [hsz]; exact hb.2.1, hb.2.2⟩
   · have hk0 : k = xs.length := by simp at hk; omega
     subst hk0
     have e1 : (xs ++ [a])[xs.length] = a := by simp
     have e2 : (fs1 ++ [f])[xs.length]'hk' = f := by
      rw [List.getElem_append_right (by omega)]
      simp [hl1]
     rw [e1, e2]
     exact hu.keep (fun b hb => hch.block b hb.2.1 hb.2.2) fun b hb => ⟨hb.1, by rw [hsz]; exact hb.2.1, fun e => hb.2.2 (by simpa [Value.ownBlock] using e.symm)⟩
theorem Xbv {W : World} {base g m c : Nat} {xs : List Sm} {z : Sm} (hm : m = xs.length) (h : Xcn W base (.slice (some ⟨g, 0, none⟩) (m + 1) c) (xs ++ [z])) :
  ∀ i, i < 7 → (∃ y, W.cell? ⟨g, m * 7 + i, none⟩ = some y) ∧ W.frozen? ⟨g, m * 7 + i, none⟩ = false := by
 subst hm
 obtain ⟨fs, hl, hown, hin⟩ := h
 rw [List.length_append, List.length_singleton] at hown
 obtain ⟨cur, hg, hc, hs, -⟩ := Xod hown
 intro i hi
 have hlt : xs.length * 7 + i < cur.size := by rw [hs]; omega
 refine ⟨⟨cur[xs.length * 7 + i], ?_⟩, frozen_of_row W g _ _ _ hg⟩
 rw [cell_of_row W g _ _ _ (0, 0) hg]
 simp [hlt]
def Xqk (w : World) (R lo : Nat) (Fr : World → Value → List Tok → Prop) (xs : List Sm) (x : Rd Sm) (e : Ending) (w' : World) : Prop := match x with
 | .bad p c => e = Xag p c ∧ Chg (fun b => b = R) w w'
 | .ok a r => e = .returned (.tuple #[]) ∧ ∃ A n c, Fr w' (.slice A n c) r ∧ Xcn w' lo (.slice A n c) (xs ++ [a])
theorem Xwu {w : World} {B R L lo G0 G1 : Nat} {AV : Addr} {D : Int} {Fr : World → Value → List Tok → Prop} (hF : FrOk w B R L lo G0 G1 AV D Fr) {W : World} {v : Value} {f : Vs} {r : List Tok} {g k c : Nat} {xs : List Sm} {z a : Sm} (hk : k = xs.length)
  (h : Fr W v r) (hown : Xcn W lo (.slice (some ⟨g, 0, none⟩) (k + 1) c) (xs ++ [z])) (hu : SmIn W (fun b => lo ≤ b ∧ b < W.heap.size ∧ b ≠ g) a f) :
  (Fr ((sevn W g (k * 7) a f).setCell AV (.slice (some ⟨g, 0, none⟩) (k + 1) c)) (.slice (some ⟨g, 0, none⟩) (k + 1) c) r ∧ Xcn ((sevn W g (k * 7) a f).setCell AV (.slice (some ⟨g, 0, none⟩) (k + 1) c)) lo (.slice (some ⟨g, 0, none⟩) (k + 1) c) (xs ++ [a])) ∧
  (Fr (sevn (W.setCell AV (.slice (some ⟨g, 0, none⟩) (k + 1) c)) g (k * 7) a f) (.slice (some ⟨g, 0, none⟩) (k + 1) c) r ∧ Xcn (sevn (W.setCell AV (.slice (some ⟨g, 0, none⟩) (k + 1) c)) g (k * 7) a f) lo (.slice (some ⟨g, 0, none⟩) (k + 1) c) (xs ++ [a])) := by
 have hg := hown.lt (b := g) rfl
 have hlv := hF.lv
 have hlB := hF.lB
 have hlw := hF.lw
 have hfar : ∀ (W : World), (∀ b, b < lo → (sevn W g (k * 7) a f).heap[b]? = W.heap[b]?) := fun W b hb => by
  unfold sevn
  rw [Below.heap_setCell _ _ _ _ (by show b ≠ g; omega), Below.heap_setCell _ _ _ _ (by show b ≠ g; omega), Below.heap_setCell _ _ _ _ (by show b ≠ g; omega), Below.heap_setCell _ _ _ _ (by show b ≠ g; omega), Below.heap_setCell _ _ _ _ (by show b ≠ g; omega), Below.heap_setCell _ _ _ _ (by show b ≠ g; omega), Below.heap_setCell _ _ _ _ (by show b ≠ g; omega)]
 have hch : ∀ W : World, Chg (fun b => b = R) w W → Chg (fun b => b = R) w (sevn W g (k * 7) a f) := fun W h => h.trans (Xcw W g (k * 7) a f) fun x hx e => by omega
 have hsz : ∀ W : World, (sevn W g (k * 7) a f).heap.size = W.heap.size := fun W => by simp [sevn, World.setCell]
 have hset : ∀ (W : World) (v : Value) (xs : List Sm), Xcn W lo v xs → Xcn (W.setCell AV (.slice (some ⟨g, 0, .none⟩) (k + 1) c)) lo v xs := fun W v xs h => h.keep (by simp [World.setCell]) fun b hb hx => Below.heap_setCell _ _ _ _ (by omega)
 refine ⟨⟨hF.put _ (hF.keep h (fun b hb _ => hfar W b hb) (by rw [hsz]; exact Nat.le_refl _) ((hF.rd h).keep fun b hb => hfar W b (by omega)) (hch W (hF.chg h))), hset _ _ _ (Xqa hk hown hu)⟩, ?_, ?_⟩
 · have h2 := hF.put (.slice (some ⟨g, 0, .none⟩) (k + 1) c) h
   exact hF.keep h2 (fun b hb _ => hfar _ b hb) (by rw [hsz]; exact Nat.le_refl _) ((hF.rd h2).keep fun b hb => hfar _ b (by omega)) (hch _ (hF.chg h2))
 · refine Xqa hk (hset _ _ _ hown) (hu.keep (fun b hb => Below.heap_setCell _ _ _ _ (by have := hb.1; omega)) fun b hb => ⟨hb.1, by simpa [World.setCell] using hb.2.1, hb.2.2⟩)
theorem Xwv {w : World} {B R L lo G0 G1 : Nat} {AV : Addr} {D : Int} {Fr : World → Value → List Tok → Prop} (hF : FrOk w B R L lo G0 G1 AV D Fr) (hR : R < lo) {Z w2 w3 : World} {v v0 : Value} {f : Vs} {r : List Tok} {g base : Nat} {xs : List Sm} {a : Sm} (hown : Xcn Z lo v xs) (hc : Chg (fun b => b = R) Z w2)
  (h : Fr w2 v0 r) (hu : SmIn w2 (fun b => base ≤ b ∧ b < w2.heap.size) a f) (hbase : Z.heap.size ≤ base) (hlo : lo ≤ Z.heap.size) (hk : ∀ b, b < w2.heap.size → v.ownBlock ≠ some b → w3.heap[b]? = w2.heap[b]?) (hs : w2.heap.size ≤ w3.heap.size) (hat : v.ownBlock = some g ∨ w2.heap.size ≤ g)
  (ho : w3.os = w2.os ∧ w3.tape = w2.tape ∧ w3.output = w2.output) :
  Fr w3 v0 r ∧ SmIn w3 (fun b => lo ≤ b ∧ b < w3.heap.size ∧ b ≠ g) a f := by
 have hlt := fun b (e : v.ownBlock = some b) => hown.lt e
 have hsz := hF.size h
 have hlB := hF.lB
 have hlw := hF.lw
 have hnv : ∀ b, b < lo → v.ownBlock ≠ some b := fun b hb e => by have := (hlt b e).1; omega
 refine ⟨hF.keep h (fun b hb _ => hk b (by omega) (hnv b hb)) hs ((hF.rd h).keep fun b hb => hk b (by omega) (hnv b (by omega))) ?_, hu.keep (fun b hb => hk b hb.2 fun e => by have := (hlt b e).2; have := hb.1; omega) fun b hb => ⟨by have := hb.1; omega, by have := hb.2; omega, fun e => ?_⟩⟩
 · have hcw := hF.chg h
   refine ⟨ho.1.trans hcw.os, ho.2.1.trans hcw.tape, ho.2.2.trans hcw.output, Nat.le_trans hcw.size hs, fun b hb hn => ?_⟩
   exact (hk b (by have := hcw.size; omega) (hnv b (by omega))).trans (hcw.block b hb hn)
 · subst e
   rcases hat with e | e
   · have := (hlt b e).2; have := hb.1; omega
   · have := hb.2; omega
theorem Xxu {W : World} {g : Nat} (h : W.heap[g]? = some (.cells #[.int .i64 0, .int .i64 0, .string ⟨#[]⟩, .string ⟨#[]⟩, .slice none 0 0, .slice none 0 0, .slice none 0 0] 68 (0, 0))) : ∀ q y, (Xct noSm noVs)[q]? = some y → W.cell? ((⟨g, 0, none⟩ : Addr).add q) = some y := fun q y hq => by
 rw [Xdo, Nat.zero_add, cell_of_row _ _ q _ _ (0, 0) h]
 simpa [Xct, noSm, noVs, Sm.kind, Sm.pl, Sm.name, Sm.type, Xab] using hq
end Go.Proofs.YtbckeljbpknbdaaGreatDoor
