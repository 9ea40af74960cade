import PyProof.Rows.All
import Wide.All
import OpenK.AllK
import Wide.FinOn
import HandS.ForMost
import HandS.IsInst
import HandS.Wide
import HandS.Style
import HandS.TupMul
import HandS.TupAny
import KE.IntBitsLaws
import HandS.Rev
import HandS.Exc
import HandS.TryOnly
import HandS.EndBits
import HandS.RaiseMore
import PySem.Challenge.RW_quietbroom_k48_headers
set_option Elab.async false
set_option linter.all false
set_option maxRecDepth 100000
set_option maxHeartbeats 4000000
set_option autoImplicit false
namespace Vf
open PySem L2
/-! conditions that nothing evaluates -/
noncomputable def cif {α : Type} (p : Prop) (a b : α) : α := @ite α p (Classical.propDecidable p) a b
theorem cif_pos {α : Type} {p : Prop} {a b : α} (h : p) : cif p a b = a := @if_pos p (Classical.propDecidable p) h _ a b
theorem cif_neg {α : Type} {p : Prop} {a b : α} (h : ¬ p) : cif p a b = b := @if_neg p (Classical.propDecidable p) h _ a b
noncomputable def cdec (p : Prop) : Bool := @decide p (Classical.propDecidable p)
theorem cdec_eq (p : Prop) [i : Decidable p] : cdec p = decide p := by
  unfold cdec
  congr
theorem cdec_t {p : Prop} (h : p) : cdec p = true := @decide_eq_true p (Classical.propDecidable p) h
theorem cdec_f {p : Prop} (h : ¬ p) : cdec p = false := @decide_eq_false p (Classical.propDecidable p) h
/-! data: what a value is worth, as a tree -/
inductive D where
  | non | bl (b : Bool) | int (i : Int) | str (s : Str)
  | lst (xs : List D) | scr (xs : List D) | tup (xs : List D)
  | ins (c : Str) (fs : List Str) (ds : List D)
  | dic (ks : List Key) (ds : List D)
/-- N: may be handed on; B: only to be read here; T: for this expression alone; O: the list of an own name -/
inductive Tg where | N | B | T | O
  deriving DecidableEq
abbrev TD := Tg × D
/-- a value that may be a handle: the number of an object that may change -/
inductive HV where | pu (d : D) | ob (n : Nat)
inductive Mob where
  | lst (xs : List HV) | tup (xs : List HV)
  | ins (c : Str) (fs : List Str) (xs : List HV)
  | dic (ks : List Key) (xs : List HV)
abbrev Tb := List (Option Mob)
inductive Sl where | un | val (t : Tg) (d : D) | own (ds : List D) | han (n : Nat)
structure Ev where
  s : List Sl
  t : Tb
abbrev Ev.put (e : Ev) (i : Nat) (s : Sl) : Ev := ⟨e.s.set i s, e.t⟩
inductive Out where | nx (e : Ev) | rt (r : TD) | bk (e : Ev) | ct (e : Ev) | rth (x : HV) (T : Tb)
abbrev FE := Ev → Option TD
abbrev FA := Ev → Option (List TD)
abbrev FT := Ev → Option Bool
abbrev FS := Ev → Option Out
def isS : D → Bool
  | .non => true | .bl _ => true | .int _ => true | .str _ => true
  | .lst _ => false | .scr _ => false | .tup _ => false | .ins _ _ _ => false | .dic _ _ => false
def vOf : D → V
  | .non => .non | .bl b => .bl b | .int i => .int i | .str s => .str s
  | .lst _ => .non | .scr _ => .non | .tup _ => .non | .ins _ _ _ => .non | .dic _ _ => .non
/-- a scalar may always be handed on -/
def nm : TD → TD
  | (_, .non) => (.N, .non) | (_, .bl b) => (.N, .bl b) | (_, .int i) => (.N, .int i) | (_, .str s) => (.N, .str s)
  | (t, d) => (t, d)
/-- the tag of an item -/
def el : Tg → Tg | .N => .N | .B => .B | .T => .T | .O => .N
/-- the tag of a thing that holds both -/
def mt2 : Tg → Tg → Tg
  | .N, .N => .N
  | .N, .B => .B | .B, .N => .B | .B, .B => .B
  | _, _ => .T
structure Zc where
  K : PySem.W.Frag
  cl : Str → Option Addr
mutual
inductive Rp (Z : Zc) (H : Hp) : V → D → Prop
  | non : Rp Z H .non .non
  | bl (b : Bool) : Rp Z H (.bl b) (.bl b)
  | int (i : Int) : Rp Z H (.int i) (.int i)
  | str (s : Str) : Rp Z H (.str s) (.str s)
  | lst {a : Addr} {xs : List V} {ds : List D} : H a = some (.lst xs) → RpL Z H xs ds → Rp Z H (.ref a) (.lst ds)
  | scr {a : Addr} {xs : List V} {ds : List D} : SqL Z.K H a xs → RpL Z H xs ds → Rp Z H (.ref a) (.scr ds)
  | tup {a : Addr} {xs : List V} {ds : List D} : SqT Z.K H a xs → RpL Z H xs ds → Rp Z H (.ref a) (.tup ds)
  | ins {a C dx : Addr} {c : Str} {fs : List Str} {vs : List V} {ds : List D} : H a = some (.ins C dx (fs.zip vs)) → Z.cl c = some C → vs.length = fs.length → RpL Z H vs ds → Rp Z H (.ref a) (.ins c fs ds)
  | dic {a : Addr} {ks : List Key} {vs : List V} {ds : List D} : Rd H a (.dK (ks.zip vs)) → vs.length = ks.length → RpL Z H vs ds → Rp Z H (.ref a) (.dic ks ds)
inductive RpL (Z : Zc) (H : Hp) : List V → List D → Prop
  | nil : RpL Z H [] []
  | cons {v : V} {vs : List V} {d : D} {ds : List D} : Rp Z H v d → RpL Z H vs ds → RpL Z H (v :: vs) (d :: ds)
end
theorem rd_mono {H H' : Hp} {a : Addr} {u : HO} (e : Same H H') (h : Rd H a u) : Rd H' a u := by
  rcases h with h | ⟨o, h⟩
  · exact .inl (e _ _ h)
  · exact .inr ⟨o, e _ _ h⟩
theorem sqT_mono {K : PySem.W.Frag} {H H' : Hp} {a : Addr} {xs : List V} (e : Same H H') (h : SqT K H a xs) : SqT K H' a xs := by
  rcases h with h | h
  · exact .inl (rd_mono e h)
  · exact .inr h
mutual
theorem Rp.mono {Z : Zc} {H H' : Hp} (e : Same H H') : ∀ {v : V} {d : D}, Rp Z H v d → Rp Z H' v d
  | _, _, .non => .non
  | _, _, .bl b => .bl b
  | _, _, .int i => .int i
  | _, _, .str s => .str s
  | _, _, .lst h r => .lst (e _ _ h) (RpL.mono e r)
  | _, _, .scr h r => .scr (e.seq h) (RpL.mono e r)
  | _, _, .tup h r => .tup (sqT_mono e h) (RpL.mono e r)
  | _, _, .ins h c l r => .ins (e _ _ h) c l (RpL.mono e r)
  | _, _, .dic h l r => .dic (rd_mono e h) l (RpL.mono e r)
theorem RpL.mono {Z : Zc} {H H' : Hp} (e : Same H H') : ∀ {vs : List V} {ds : List D}, RpL Z H vs ds → RpL Z H' vs ds
  | _, _, .nil => .nil
  | _, _, .cons h r => .cons (Rp.mono e h) (RpL.mono e r)
end
section
variable {Z : Zc} {H H' : Hp}
theorem RpL.length : ∀ {vs : List V} {ds : List D}, RpL Z H vs ds → vs.length = ds.length
  | _, _, .nil => rfl
  | _, _, .cons _ r => congrArg Nat.succ r.length
theorem RpL.get : ∀ {vs : List V} {ds : List D} {i : Nat} {d : D}, RpL Z H vs ds → ds[i]? = some d → ∃ v, vs[i]? = some v ∧ Rp Z H v d
  | _, _, _, _, .nil, e => by simp at e
  | _, _, 0, _, .cons h r, e => by simp at e; subst e; exact ⟨_, rfl, h⟩
  | _, _, i + 1, _, .cons h r, e => by simpa using RpL.get (i := i) r (by simpa using e)
theorem RpL.get' : ∀ {vs : List V} {ds : List D} {i : Nat} {v : V}, RpL Z H vs ds → vs[i]? = some v → ∃ d, ds[i]? = some d ∧ Rp Z H v d
  | _, _, _, _, .nil, e => by simp at e
  | _, _, 0, _, .cons h r, e => by simp at e; subst e; exact ⟨_, rfl, h⟩
  | _, _, i + 1, _, .cons h r, e => by simpa using RpL.get' (i := i) r (by simpa using e)
theorem RpL.append : ∀ {vs us : List V} {ds es : List D}, RpL Z H vs ds → RpL Z H us es → RpL Z H (vs ++ us) (ds ++ es)
  | _, _, _, _, .nil, s => s
  | _, _, _, _, .cons h r, s => .cons h (r.append s)
theorem RpL.take : ∀ {vs : List V} {ds : List D} (n : Nat), RpL Z H vs ds → RpL Z H (vs.take n) (ds.take n)
  | _, _, 0, _ => .nil
  | _, _, _ + 1, .nil => .nil
  | _, _, n + 1, .cons h r => .cons h (r.take n)
theorem RpL.drop : ∀ {vs : List V} {ds : List D} (n : Nat), RpL Z H vs ds → RpL Z H (vs.drop n) (ds.drop n)
  | _, _, 0, r => r
  | _, _, _ + 1, .nil => .nil
  | _, _, n + 1, .cons _ r => r.drop n
theorem RpL.set : ∀ {vs : List V} {ds : List D} {v : V} {d : D} (n : Nat), RpL Z H vs ds → Rp Z H v d → RpL Z H (vs.set n v) (ds.set n d)
  | _, _, _, _, _, .nil, _ => .nil
  | _, _, _, _, 0, .cons _ r, q => .cons q r
  | _, _, _, _, n + 1, .cons h r, q => .cons h (r.set n q)
theorem RpL.rep : ∀ {vs : List V} {ds : List D} (n : Nat), RpL Z H vs ds → RpL Z H (List.replicate n vs).flatten (List.replicate n ds).flatten
  | _, _, 0, _ => .nil
  | _, _, n + 1, r => by
    rw [List.replicate_succ, List.replicate_succ, List.flatten_cons, List.flatten_cons]
    exact r.append (r.rep n)
theorem rp_val {v : V} {d : D} (hs : isS d = true) (h : Rp Z H v d) : v = vOf d := by
  cases h <;> first | rfl | exact absurd hs (by simp [isS])
theorem rp_of {d : D} (hs : isS d = true) : Rp Z H (vOf d) d := by
  cases d <;> first | (constructor; done) | exact absurd hs (by simp [isS])
theorem rpL_vals : ∀ {vs : List V} {ds : List D}, RpL Z H vs ds → ds.all isS = true → vs = ds.map vOf
  | _, _, .nil, _ => rfl
  | _, _, .cons h r, e => by
    simp only [List.all_cons, Bool.and_eq_true] at e
    rw [List.map_cons, rp_val e.1 h, rpL_vals r e.2]
end
/-! worlds -/
structure Wd where
  N : Hp
  B : Hp
  H : Hp
  m : List Addr
structure Wf (w : Wd) : Prop where
  nb : Same w.N w.B
  bh : Same w.B w.H
theorem Wf.nh {w : Wd} (h : Wf w) : Same w.N w.H := h.nb.trans h.bh
structure Gr (w w' : Wd) : Prop where
  wf : Wf w'
  n : Same w.N w'.N
  b : Same w.B w'.B
  h : Same w.H w'.H
  fn : ∀ x, w'.N x ≠ none → w.N x ≠ none ∨ w.H x = none
  fb : ∀ x, w'.B x ≠ none → w.B x ≠ none ∨ w.H x = none
  m : w'.m = w.m
/-- growth of a statement: own lists may change -/
structure Gs (w w' : Wd) : Prop where
  wf : Wf w'
  n : Same w.N w'.N
  b : Same w.B w'.B
  fn : ∀ x, w'.N x ≠ none → w.N x ≠ none ∨ w.B x = none
  m : w.m <+: w'.m
  mf : ∀ a ∈ w'.m, a ∈ w.m ∨ w.B a = none
theorem Gr.refl {w : Wd} (h : Wf w) : Gr w w := ⟨h, .refl _, .refl _, .refl _, fun _ q => .inl q, fun _ q => .inl q, rfl⟩
theorem Gs.refl {w : Wd} (h : Wf w) : Gs w w := ⟨h, .refl _, .refl _, fun _ q => .inl q, List.prefix_refl _, fun _ q => .inl q⟩
theorem Gr.trans {w w1 w2 : Wd} (a : Gr w w1) (b : Gr w1 w2) : Gr w w2 where
  wf := b.wf
  n := a.n.trans b.n
  b := a.b.trans b.b
  h := a.h.trans b.h
  fn := fun x q => (b.fn x q).elim (a.fn x) fun z => .inr (a.h.free z)
  fb := fun x q => (b.fb x q).elim (a.fb x) fun z => .inr (a.h.free z)
  m := b.m.trans a.m
theorem Gs.trans {w w1 w2 : Wd} (a : Gs w w1) (b : Gs w1 w2) : Gs w w2 where
  wf := b.wf
  n := a.n.trans b.n
  b := a.b.trans b.b
  fn := fun x q => (b.fn x q).elim (a.fn x) fun z => .inr (a.b.free z)
  m := a.m.trans b.m
  mf := fun x q => (b.mf x q).elim (a.mf x) fun z => .inr (a.b.free z)
theorem Gr.gs {w w' : Wd} (hw : Wf w) (g : Gr w w') : Gs w w' := ⟨g.wf, g.n, g.b, fun x q => (g.fn x q).imp id fun z => hw.bh.free z, by rw [g.m]; exact List.prefix_refl _, fun x q => .inl (by rw [← g.m]; exact q)⟩
theorem Gs.gr {N H : Hp} {m : List Addr} {w' : Wd} (g : Gs ⟨N, H, H, m⟩ w') : Gr ⟨N, H, H, m⟩ ⟨w'.N, w'.B, w'.H, m⟩ := ⟨⟨g.wf.nb, g.wf.bh⟩, g.n, g.b, g.b.trans g.wf.bh, g.fn, fun x _ => by
  show H x ≠ none ∨ H x = none
  cases H x with
  | none => exact .inr rfl
  | some o => exact .inl (fun z => nomatch z), rfl⟩
def RV (Z : Zc) (w : Wd) : TD → V → Prop
  | (.N, d), v => Rp Z w.N v d
  | (.B, d), v => Rp Z w.B v d
  | (.T, d), v => Rp Z w.H v d
  | (.O, d), v => ∃ p vs ds, v = .ref p ∧ d = .lst ds ∧ w.H p = some (.lst vs) ∧ w.B p = none ∧ RpL Z w.N vs ds
theorem own_mono {w w' : Wd} (g : Gr w w') {p : Addr} {o : HO} (h : w.H p = some o) (b : w.B p = none) : w'.B p = none := by
  cases q : w'.B p with
  | none => rfl
  | some u =>
    rcases g.fb p (by rw [q]; exact fun z => nomatch z) with z | z
    · exact (z b).elim
    · rw [h] at z
      cases z
def RVs (Z : Zc) (w : Wd) : List TD → List V → Prop
  | [], [] => True
  | r :: rs, v :: vs => RV Z w r v ∧ RVs Z w rs vs
  | _, _ => False
theorem RV.mono {Z : Zc} {w w' : Wd} (g : Gr w w') : ∀ {r : TD} {v : V}, RV Z w r v → RV Z w' r v
  | (.N, _), _, h => Rp.mono g.n h
  | (.B, _), _, h => Rp.mono g.b h
  | (.T, _), _, h => Rp.mono g.h h
  | (.O, _), _, ⟨p, vs, ds, e, e2, h, b, r⟩ => ⟨p, vs, ds, e, e2, g.h _ _ h, own_mono g h b, RpL.mono g.n r⟩
theorem RVs.mono {Z : Zc} {w w' : Wd} (g : Gr w w') : ∀ {rs : List TD} {vs : List V}, RVs Z w rs vs → RVs Z w' rs vs
  | [], [], _ => trivial
  | _ :: _, _ :: _, ⟨h, r⟩ => ⟨RV.mono g h, RVs.mono g r⟩
  | [], _ :: _, h => h.elim
  | _ :: _, [], h => h.elim
theorem RVs.length {Z : Zc} {w : Wd} : ∀ {rs : List TD} {vs : List V}, RVs Z w rs vs → vs.length = rs.length
  | [], [], _ => rfl
  | _ :: _, _ :: _, ⟨_, r⟩ => congrArg Nat.succ r.length
  | [], _ :: _, h => h.elim
  | _ :: _, [], h => h.elim
/-- any value is at least readable in the whole heap -/
theorem RV.top {Z : Zc} {w : Wd} (hw : Wf w) : ∀ {r : TD} {v : V}, RV Z w r v → Rp Z w.H v r.2
  | (.N, _), _, h => Rp.mono hw.nh h
  | (.B, _), _, h => Rp.mono hw.bh h
  | (.T, _), _, h => h
  | (.O, _), _, ⟨p, vs, ds, e, e2, h, b, r⟩ => by
    cases e
    cases e2
    exact .lst h (RpL.mono hw.nh r)
theorem RV.sc {Z : Zc} {w : Wd} {t u : Tg} {d : D} {v : V} (hw : Wf w) (hs : isS d = true) (hu : u ≠ .O) (h : RV Z w (t, d) v) : RV Z w (u, d) v := by
  have e := rp_val hs (h.top hw)
  subst e
  cases u with
  | O => exact (hu rfl).elim
  | N => exact rp_of (Z := Z) (H := w.N) hs
  | B => exact rp_of (Z := Z) (H := w.B) hs
  | T => exact rp_of (Z := Z) (H := w.H) hs
theorem RV.nm {Z : Zc} {w : Wd} (hw : Wf w) : ∀ {r : TD} {v : V}, RV Z w r v → RV Z w (Vf.nm r) v
  | (t, .non), _, h => h.sc hw rfl (by decide)
  | (t, .bl _), _, h => h.sc hw rfl (by decide)
  | (t, .int _), _, h => h.sc hw rfl (by decide)
  | (t, .str _), _, h => h.sc hw rfl (by decide)
  | (t, .lst _), _, h => h
  | (t, .scr _), _, h => h
  | (t, .tup _), _, h => h
  | (t, .ins _ _ _), _, h => h
  | (t, .dic _ _), _, h => h
/-- the heap that a tag reads -/
def Wd.rd (w : Wd) : Tg → Hp
  | .N => w.N | .B => w.B | .T => w.H | .O => w.H
theorem RV.rp {Z : Zc} {w : Wd} {t : Tg} {d : D} {v : V} (ht : t ≠ .O) (h : RV Z w (t, d) v) : Rp Z (w.rd t) v d := by
  cases t <;> first | exact h | exact (ht rfl).elim
theorem RV.of {Z : Zc} {w : Wd} {t : Tg} {d : D} {v : V} (ht : t ≠ .O) (h : Rp Z (w.rd t) v d) : RV Z w (t, d) v := by
  cases t <;> first | exact h | exact (ht rfl).elim
theorem el_ne (t : Tg) : el t ≠ .O := by cases t <;> decide
theorem rd_le {w : Wd} (hw : Wf w) : ∀ t, Same (w.rd t) w.H
  | .N => hw.nh
  | .B => hw.bh
  | .T => .refl _
  | .O => .refl _
/-- a list's parts: where it stands, its items by the tag of an item -/
theorem RV.lst {Z : Zc} {w : Wd} (hw : Wf w) : ∀ {t : Tg} {ds : List D} {v : V}, RV Z w (t, .lst ds) v → ∃ p vs, v = .ref p ∧ w.H p = some (.lst vs) ∧ RpL Z (w.rd (el t)) vs ds
  | .N, _, _, h => by cases h with | lst h r => exact ⟨_, _, rfl, hw.nh _ _ h, r⟩
  | .B, _, _, h => by cases h with | lst h r => exact ⟨_, _, rfl, hw.bh _ _ h, r⟩
  | .T, _, _, h => by cases h with | lst h r => exact ⟨_, _, rfl, h, r⟩
  | .O, _, _, ⟨p, vs, ds, e, e2, h, b, r⟩ => by
    cases e2
    exact ⟨p, vs, e, h, r⟩
theorem RV.scr {Z : Zc} {w : Wd} (hw : Wf w) : ∀ {t : Tg} {ds : List D} {v : V}, RV Z w (t, .scr ds) v → ∃ p vs, v = .ref p ∧ SqL Z.K w.H p vs ∧ RpL Z (w.rd (el t)) vs ds
  | .N, _, _, h => by cases h with | scr h r => exact ⟨_, _, rfl, hw.nh.seq h, r⟩
  | .B, _, _, h => by cases h with | scr h r => exact ⟨_, _, rfl, hw.bh.seq h, r⟩
  | .T, _, _, h => by cases h with | scr h r => exact ⟨_, _, rfl, h, r⟩
  | .O, _, _, ⟨p, vs, ds, e, e2, h, b, r⟩ => nomatch e2
theorem RV.tup {Z : Zc} {w : Wd} (hw : Wf w) : ∀ {t : Tg} {ds : List D} {v : V}, RV Z w (t, .tup ds) v → ∃ p vs, v = .ref p ∧ SqT Z.K w.H p vs ∧ RpL Z (w.rd (el t)) vs ds
  | .N, _, _, h => by cases h with | tup h r => exact ⟨_, _, rfl, sqT_mono hw.nh h, r⟩
  | .B, _, _, h => by cases h with | tup h r => exact ⟨_, _, rfl, sqT_mono hw.bh h, r⟩
  | .T, _, _, h => by cases h with | tup h r => exact ⟨_, _, rfl, h, r⟩
  | .O, _, _, ⟨p, vs, ds, e, e2, h, b, r⟩ => nomatch e2
/-! a new object at p: it goes to the heaps that its tag says -/
def Wd.put (w : Wd) (t : Tg) (p : Addr) (o : HO) : Wd := match t with
  | .N => ⟨upd w.N p o, upd w.B p o, upd w.H p o, w.m⟩
  | .B => ⟨w.N, upd w.B p o, upd w.H p o, w.m⟩
  | _ => ⟨w.N, w.B, upd w.H p o, w.m⟩
theorem put_H {w : Wd} {t : Tg} {p : Addr} {o : HO} : (w.put t p o).H = upd w.H p o := by cases t <;> rfl
theorem same_up {H : Hp} {p : Addr} {o : HO} (h : H p = none) : Same H (upd H p o) := fun b x e => by
  rw [upd_ne (ne_of_none e h)]
  exact e
theorem same_up2 {H H' : Hp} {p : Addr} {o : HO} (h : Same H H') : Same (upd H p o) (upd H' p o) := fun b x e => by
  by_cases hb : b = p
  · subst hb
    rw [upd_same] at e ⊢
    exact e
  · rw [upd_ne hb] at e ⊢
    exact h _ _ e
theorem same_up1 {H H' : Hp} {p : Addr} {o : HO} (h : Same H H') (n : H p = none) : Same H (upd H' p o) := fun b x e => by
  rw [upd_ne (ne_of_none e n)]
  exact h _ _ e
theorem upd_some {H : Hp} {p x : Addr} {o : HO} (h : upd H p o x ≠ none) : H x ≠ none ∨ x = p := by
  by_cases hb : x = p
  · exact .inr hb
  · rw [upd_ne hb] at h
    exact .inl h
theorem Gr.put {w : Wd} (hw : Wf w) {t : Tg} {p : Addr} {o : HO} (hp : w.H p = none) : Gr w (w.put t p o) := by
  have hB := hw.bh.free hp
  have hN := hw.nb.free hB
  cases t with
  | N => exact ⟨⟨same_up2 hw.nb, same_up2 hw.bh⟩, same_up hN, same_up hB, same_up hp, fun x q => (upd_some q).imp id fun e => by rw [e]; exact hp, fun x q => (upd_some q).imp id fun e => by rw [e]; exact hp, rfl⟩
  | B => exact ⟨⟨same_up1 hw.nb hN, same_up2 hw.bh⟩, .refl _, same_up hB, same_up hp, fun x q => .inl q, fun x q => (upd_some q).imp id fun e => by rw [e]; exact hp, rfl⟩
  | T => exact ⟨⟨hw.nb, same_up1 hw.bh hB⟩, .refl _, .refl _, same_up hp, fun x q => .inl q, fun x q => .inl q, rfl⟩
  | O => exact ⟨⟨hw.nb, same_up1 hw.bh hB⟩, .refl _, .refl _, same_up hp, fun x q => .inl q, fun x q => .inl q, rfl⟩
theorem put_at {w : Wd} {t : Tg} {p : Addr} {o : HO} (ht : t ≠ .O) : (w.put t p o).rd t p = some o := by
  cases t with
  | N => exact upd_same
  | B => exact upd_same
  | T => exact upd_same
  | O => exact (ht rfl).elim
theorem rd_gr {w w' : Wd} (g : Gr w w') : ∀ t, Same (w.rd t) (w'.rd t)
  | .N => g.n
  | .B => g.b
  | .T => g.h
  | .O => g.h
/-- a new list, a new tuple, of items by a tag -/
theorem new_lst {Z : Zc} {w : Wd} (hw : Wf w) {t : Tg} (ht : t ≠ .O) {p : Addr} {vs : List V} {ds : List D} (hp : w.H p = none) (r : RpL Z (w.rd t) vs ds) : RV Z (w.put t p (.lst vs)) (t, .lst ds) (.ref p) :=
  RV.of ht (.lst (put_at ht) (RpL.mono (rd_gr (Gr.put hw hp) t) r))
theorem new_tup {Z : Zc} {w : Wd} (hw : Wf w) {t : Tg} (ht : t ≠ .O) {p : Addr} {vs : List V} {ds : List D} (hp : w.H p = none) (r : RpL Z (w.rd t) vs ds) : RV Z (w.put t p (.tup vs)) (t, .tup ds) (.ref p) :=
  RV.of ht (.tup (.of (put_at ht)) (RpL.mono (rd_gr (Gr.put hw hp) t) r))
theorem adopt {Z : Zc} {w w' : Wd} (g : Gr w w') {t : Tg} (ht : t ≠ .O) {p : Addr} {vs : List V} {ds : List D} (hp : w.H p = none) (h : w'.H p = some (.lst vs)) (hb : w'.B p = none) (r : RpL Z (w'.rd t) vs ds) :
    ∃ w2, Gr w w2 ∧ w2.H = w'.H ∧ RV Z w2 (t, .lst ds) (.ref p) := by
  have hn : w'.N p = none := g.wf.nb.free hb
  have sh : Same (upd w'.B p (.lst vs)) w'.H := fun b x e => by
    by_cases q : b = p
    · subst q
      rw [upd_same] at e
      rw [h]
      exact e
    · rw [upd_ne q] at e
      exact g.wf.bh _ _ e
  cases t with
  | O => exact (ht rfl).elim
  | T => exact ⟨w', g, rfl, Rp.lst h r⟩
  | N => exact ⟨⟨upd w'.N p (.lst vs), upd w'.B p (.lst vs), w'.H, w'.m⟩, ⟨⟨same_up2 g.wf.nb, sh⟩, same_up1 g.n (g.n.free hn), same_up1 g.b (g.b.free hb), g.h,
      fun x q => (upd_some q).elim (g.fn x) fun e => .inr (by rw [e]; exact hp), fun x q => (upd_some q).elim (g.fb x) fun e => .inr (by rw [e]; exact hp), g.m⟩, rfl, Rp.lst upd_same (RpL.mono (same_up hn) r)⟩
  | B => exact ⟨⟨w'.N, upd w'.B p (.lst vs), w'.H, w'.m⟩, ⟨⟨same_up1 g.wf.nb hn, sh⟩, g.n, same_up1 g.b (g.b.free hb), g.h,
      g.fn, fun x q => (upd_some q).elim (g.fb x) fun e => .inr (by rw [e]; exact hp), g.m⟩, rfl, Rp.lst upd_same (RpL.mono (same_up hb) r)⟩
theorem mt2_ne (t u : Tg) : mt2 t u ≠ .O := by cases t <;> cases u <;> decide
theorem mt2_l {w : Wd} (hw : Wf w) (t u : Tg) : Same (w.rd (el t)) (w.rd (mt2 (el t) u)) := by
  cases t <;> cases u <;> first | exact .refl _ | exact hw.nb | exact hw.bh | exact hw.nh
theorem mt2_r {w : Wd} (hw : Wf w) (t u : Tg) : Same (w.rd (el u)) (w.rd (mt2 t (el u))) := by
  cases t <;> cases u <;> first | exact .refl _ | exact hw.nb | exact hw.bh | exact hw.nh
/-! objects that may change -/
def HvOk (Z : Zc) (w : Wd) (v : V) : HV → Prop
  | .pu d => Rp Z w.N v d
  | .ob n => ∃ a, v = .ref a ∧ w.m[n]? = some a
def HvsOk (Z : Zc) (w : Wd) : List V → List HV → Prop
  | [], [] => True
  | v :: vs, x :: xs => HvOk Z w v x ∧ HvsOk Z w vs xs
  | _, _ => False
def MobOk (Z : Zc) (w : Wd) (a : Addr) : Mob → Prop
  | .lst xs => ∃ vs, w.H a = some (.lst vs) ∧ HvsOk Z w vs xs
  | .tup xs => ∃ vs, w.H a = some (.tup vs) ∧ HvsOk Z w vs xs
  | .ins c fs xs => ∃ C dx vs, w.H a = some (.ins C dx (fs.zip vs)) ∧ Z.cl c = some C ∧ vs.length = fs.length ∧ HvsOk Z w vs xs
  | .dic ks xs => ∃ vs, w.H a = some (.dK (ks.zip vs)) ∧ vs.length = ks.length ∧ HvsOk Z w vs xs
structure TbOk (Z : Zc) (T : Tb) (w : Wd) : Prop where
  len : T.length = w.m.length
  nd : w.m.Nodup
  hh : ∀ a ∈ w.m, w.H a ≠ none
  at_ : ∀ (n : Nat) (M : Mob), T[n]? = some (some M) → ∃ a, w.m[n]? = some a ∧ w.B a = none ∧ MobOk Z w a M
theorem HvOk.mono {Z : Zc} {w w' : Wd} (hn : Same w.N w'.N) (hm : w.m <+: w'.m) {v : V} : ∀ {x : HV}, HvOk Z w v x → HvOk Z w' v x
  | .pu _, h => Rp.mono hn h
  | .ob _, ⟨a, e, h⟩ => ⟨a, e, by
    obtain ⟨l, hl⟩ := hm
    rw [← hl, List.getElem?_append_left (List.getElem?_eq_some_iff.mp h).1]
    exact h⟩
theorem HvsOk.mono {Z : Zc} {w w' : Wd} (hn : Same w.N w'.N) (hm : w.m <+: w'.m) : ∀ {vs : List V} {xs : List HV}, HvsOk Z w vs xs → HvsOk Z w' vs xs
  | [], [], _ => trivial
  | _ :: _, _ :: _, ⟨h, r⟩ => ⟨h.mono hn hm, r.mono hn hm⟩
  | [], _ :: _, h => h.elim
  | _ :: _, [], h => h.elim
/-- an object keeps its worth where its place in the heap does -/
theorem MobOk.mono {Z : Zc} {w w' : Wd} (hn : Same w.N w'.N) (hm : w.m <+: w'.m) {a : Addr} (hh : ∀ o, w.H a = some o → w'.H a = some o) : ∀ {M : Mob}, MobOk Z w a M → MobOk Z w' a M
  | .lst _, ⟨vs, h, r⟩ => ⟨vs, hh _ h, r.mono hn hm⟩
  | .tup _, ⟨vs, h, r⟩ => ⟨vs, hh _ h, r.mono hn hm⟩
  | .ins _ _ _, ⟨C, dx, vs, h, c, l, r⟩ => ⟨C, dx, vs, hh _ h, c, l, r.mono hn hm⟩
  | .dic _ _, ⟨vs, h, l, r⟩ => ⟨vs, hh _ h, l, r.mono hn hm⟩
theorem TbOk.mono {Z : Zc} {T : Tb} {w w' : Wd} (g : Gr w w') (h : TbOk Z T w) : TbOk Z T w' where
  len := by rw [g.m]; exact h.len
  nd := by rw [g.m]; exact h.nd
  hh := fun a ha e => h.hh a (by rw [← g.m]; exact ha) (g.h.free e)
  at_ := fun n M e => by
    obtain ⟨a, h1, h2, h3⟩ := h.at_ n M e
    have hb : w'.B a = none := by
      have hH : ∃ o, w.H a = some o := by
        cases M with
        | lst _ => obtain ⟨vs, q, _⟩ := h3; exact ⟨_, q⟩
        | tup _ => obtain ⟨vs, q, _⟩ := h3; exact ⟨_, q⟩
        | ins _ _ _ => obtain ⟨C, dx, vs, q, _⟩ := h3; exact ⟨_, q⟩
        | dic _ _ => obtain ⟨vs, q, _⟩ := h3; exact ⟨_, q⟩
      obtain ⟨o, q⟩ := hH
      exact own_mono g q h2
    exact ⟨a, by rw [g.m]; exact h1, hb, h3.mono g.n (by rw [g.m]; exact List.prefix_refl _) fun o q => g.h _ _ q⟩
/-- .. where a list that is not of the table changes -/
theorem TbOk.away {Z : Zc} {T : Tb} {w w' : Wd} (h : TbOk Z T w) (hn : Same w.N w'.N) (hm : w'.m = w.m) (hb : ∀ a ∈ w.m, w.B a = none → w'.B a = none) (hh : ∀ a ∈ w.m, ∀ o, w.H a = some o → w'.H a = some o) : TbOk Z T w' where
  len := by rw [hm]; exact h.len
  nd := by rw [hm]; exact h.nd
  hh := fun a ha e => by
    rw [hm] at ha
    cases q : w.H a with
    | none => exact h.hh a ha q
    | some o => rw [hh a ha o q] at e; cases e
  at_ := fun n M e => by
    obtain ⟨a, h1, h2, h3⟩ := h.at_ n M e
    have ha := List.mem_of_getElem? h1
    exact ⟨a, by rw [hm]; exact h1, hb a ha h2, h3.mono hn (by rw [hm]; exact List.prefix_refl _) (hh a ha)⟩
/-! frames -/
def SlOk (Z : Zc) (w : Wd) (o : Option V) : Sl → Prop
  | .un => True
  | .val t d => ∃ v, o = some v ∧ (t = .N ∧ Rp Z w.N v d ∨ t = .B ∧ Rp Z w.B v d)
  | .own ds => ∃ p vs, o = some (.ref p) ∧ w.H p = some (.lst vs) ∧ w.B p = none ∧ p ∉ w.m ∧ RpL Z w.N vs ds
  | .han n => ∃ a, o = some (.ref a) ∧ w.m[n]? = some a
structure Wok (Z : Zc) (env : Ev) (σ : L2.St) (w : Wd) : Prop where
  wf : Wf w
  len : σ.length = env.s.length
  sl : ∀ (i : Nat) (s : Sl), env.s[i]? = some s → ∃ o : Option V, σ[i]? = some o ∧ SlOk Z w o s
  dj : ∀ (i j : Nat) (ds es : List D) (p : Addr), i ≠ j → env.s[i]? = some (.own ds) → env.s[j]? = some (.own es) → σ[i]? = some (some (.ref p)) → σ[j]? ≠ some (some (.ref p))
  tb : TbOk Z env.t w
theorem SlOk.mono {Z : Zc} {w w' : Wd} (g : Gr w w') {o : Option V} : ∀ {s : Sl}, SlOk Z w o s → SlOk Z w' o s
  | .un, _ => trivial
  | .val _ _, ⟨v, e, h⟩ => ⟨v, e, h.imp (fun ⟨a, b⟩ => ⟨a, Rp.mono g.n b⟩) fun ⟨a, b⟩ => ⟨a, Rp.mono g.b b⟩⟩
  | .own _, ⟨p, vs, e, h, b, hm, r⟩ => ⟨p, vs, e, g.h _ _ h, own_mono g h b, by rw [g.m]; exact hm, RpL.mono g.n r⟩
  | .han _, ⟨a, e, h⟩ => ⟨a, e, by rw [g.m]; exact h⟩
theorem Wok.mono {Z : Zc} {env : Ev} {σ : L2.St} {w w' : Wd} (k : Wok Z env σ w) (g : Gr w w') : Wok Z env σ w' :=
  ⟨g.wf, k.len, fun i s e => let ⟨o, h, q⟩ := k.sl i s e; ⟨o, h, q.mono g⟩, k.dj, k.tb.mono g⟩
/-! readings -/
def tE (Z : Zc) (f : FE) : TE := fun σ H Q => ∃ env w r, w.H = H ∧ Wok Z env σ w ∧ f env = some r ∧ ∀ v w', Gr w w' → RV Z w' r v → Q v w'.H
def tA (Z : Zc) (f : FA) : TA := fun σ H Q => ∃ env w rs, w.H = H ∧ Wok Z env σ w ∧ f env = some rs ∧ ∀ vs w', Gr w w' → RVs Z w' rs vs → Q vs w'.H
def tT (Z : Zc) (f : FT) : TT := fun σ H Q => ∃ env w b, w.H = H ∧ Wok Z env σ w ∧ f env = some b ∧ ∀ w', Gr w w' → Q b w'.H
def OutOk (Z : Zc) (D : Ends) (w : Wd) : Out → Prop
  | .nx e => ∀ σ' w', Gs w w' → Wok Z e σ' w' → D.nx σ' w'.H
  | .rt r => ∀ v w', Gs w w' → RV Z w' r v → D.rt v w'.H
  | .bk e => ∀ σ' w', Gs w w' → Wok Z e σ' w' → D.bk σ' w'.H
  | .ct e => ∀ σ' w', Gs w w' → Wok Z e σ' w' → D.ct σ' w'.H
  | .rth x T => ∀ v w', Gs w w' → HvOk Z w' v x → TbOk Z T w' → D.rt v w'.H
def tS (Z : Zc) (f : FS) : TS := fun D σ H => ∃ env w out, w.H = H ∧ Wok Z env σ w ∧ f env = some out ∧ OutOk Z D w out
theorem OutOk.mono {Z : Zc} {D : Ends} {w w' : Wd} (g : Gs w w') : ∀ {out : Out}, OutOk Z D w out → OutOk Z D w' out
  | .nx _, h => fun σ' w2 g2 => h σ' w2 (g.trans g2)
  | .rt _, h => fun v w2 g2 => h v w2 (g.trans g2)
  | .bk _, h => fun σ' w2 g2 => h σ' w2 (g.trans g2)
  | .ct _, h => fun σ' w2 g2 => h σ' w2 (g.trans g2)
  | .rth _ _, h => fun v w2 g2 => h v w2 (g.trans g2)
section
variable {X : Cx} {Z : Zc} {e : Expr} {es : List Expr}
theorem pe_w {t t' : TE} (h : PE X e t) (hw : ∀ σ H Q, t' σ H Q → t σ H Q) : PE X e t' := ⟨fun pins s σ H Q I q => h.run pins s σ H Q I (hw _ _ _ q)⟩
theorem pt_w {t t' : TT} (h : PT X e t) (hw : ∀ σ H Q, t' σ H Q → t σ H Q) : PT X e t' := ⟨fun pins s σ H Q I q => h.run pins s σ H Q I (hw _ _ _ q)⟩
theorem pw_w {t t' : TT} (h : PW X e t) (hw : ∀ σ H Q, t' σ H Q → t σ H Q) : PW X e t' := ⟨fun wh pins s σ H Q I q => h.run wh pins s σ H Q I (hw _ _ _ q)⟩
theorem pa_w {t t' : TA} (h : PA X es t) (hw : ∀ σ H Q, t' σ H Q → t σ H Q) : PA X es t' := ⟨fun ps pins s σ H Q I q => h.run ps pins s σ H Q I (hw _ _ _ q)⟩
theorem ps_w {st : Stmt} {t t' : TS} (h : PS X st t) (hw : ∀ D σ H, t' D σ H → t D σ H) : PS X st t' := ⟨fun pins s σ H D I q => h.run pins s σ H D I (hw _ _ _ q)⟩
theorem pss_w {st : List Stmt} {t t' : TS} (h : PSs X st t) (hw : ∀ D σ H, t' D σ H → t D σ H) : PSs X st t' := ⟨fun pins s σ H D I q => h.run pins s σ H D I (hw _ _ _ q)⟩
end
end Vf
namespace Vf
open PySem L2
abbrev zx (X : Cx) (cl : Str → Option Addr) : Zc := ⟨X.K, cl⟩
structure XS (X : Cx) : Prop where
  calm : X.calm = true
  nd : X.N.Nodup
  hu : X.A.units + 65 < cLine
def lim : Nat := 1000000
theorem lim_le {n : Nat} (h : n ≤ lim) : n ≤ sizeLine := Nat.le_trans h (by decide)
theorem lim_lt {n : Nat} (h : n ≤ lim) : n < sizeLine := Nat.lt_of_le_of_lt h (by decide)
/-! what things are worth -/
def sVar (i : Nat) : FE := fun env => match env.s[i]? with
  | some (.val t d) => some (nm (t, d))
  | some (.own ds) => some (.O, .lst ds)
  | _ => none
@[simp] def sLit (d : D) : FE := fun _ => some (.N, d)
@[simp] def sOp (o : TD → TD → Option TD) (f g : FE) : FE := fun env => (f env).bind fun x => (g env).bind fun y => o x y
@[simp] def sUn (o : TD → Option TD) (f : FE) : FE := fun env => (f env).bind o
@[simp] def sNil : FA := fun _ => some []
@[simp] def sCons (f : FE) (g : FA) : FA := fun env => (f env).bind fun x => (g env).bind fun xs => some (x :: xs)
@[simp] def sB (o : List TD → Option TD) (g : FA) : FE := fun env => (g env).bind o
@[simp] def sIfe (c : FT) (f g : FE) : FE := fun env => (c env).bind fun b => if b then f env else g env
def tru (r : TD) : Option Bool := match r.2 with
  | .non => some false
  | .bl b => some b
  | .int i => some (i != 0)
  | .str s => if s.length ≤ lim then some ((s.length : Int) != 0) else none
  | .lst xs => some (!xs.isEmpty)
  | .scr xs => some (!xs.isEmpty)
  | .tup xs => some (!xs.isEmpty)
  | _ => none
@[simp] def sTru (f : FE) : FT := fun env => (f env).bind tru
def asB (r : TD) : Option Bool := match r.2 with | .bl b => some b | _ => none
@[simp] def sBl (f : FE) : FT := fun env => (f env).bind asB
@[simp] def sAndT (c d : FT) : FT := fun env => (c env).bind fun b => if b then d env else some false
@[simp] def sOrT (c d : FT) : FT := fun env => (c env).bind fun b => if b then some true else d env
@[simp] def sNotT (c : FT) : FT := fun env => (c env).map fun b => !b
/-- and, or, not as values, the left one a bool -/
@[simp] def sAndV (f g : FE) : FE := fun env => ((f env).bind asB).bind fun b => if b then g env else some (.N, .bl false)
@[simp] def sOrV (f g : FE) : FE := fun env => ((f env).bind asB).bind fun b => if b then some (.N, .bl true) else g env
@[simp] def sNotV (f : FE) : FE := fun env => ((f env).bind asB).map fun b => (.N, .bl (!b))
/-- a < b < c -/
@[simp] def sCh (o p : TD → TD → Option TD) (f g h : FE) : FE := fun env => (f env).bind fun x => (g env).bind fun y => ((o x y).bind asB).bind fun b => if b then (h env).bind fun z => p y z else some (.N, .bl false)
section
variable {Z : Zc} {w : Wd}
theorem rv_s {t : Tg} {d : D} {v : V} (hw : Wf w) (hs : isS d = true) (h : RV Z w (t, d) v) : v = vOf d := rp_val hs (h.top hw)
theorem rv_int {t : Tg} {i : Int} {v : V} (hw : Wf w) (h : RV Z w (t, .int i) v) : v = .int i := rv_s hw rfl h
theorem rv_str {t : Tg} {z : Str} {v : V} (hw : Wf w) (h : RV Z w (t, .str z) v) : v = .str z := rv_s hw rfl h
theorem rv_bl {t : Tg} {b : Bool} {v : V} (hw : Wf w) (h : RV Z w (t, .bl b) v) : v = .bl b := rv_s hw rfl h
theorem rv_non {t : Tg} {v : V} (hw : Wf w) (h : RV Z w (t, .non) v) : v = .non := rv_s hw rfl h
theorem nN (d : D) (hs : isS d = true) : RV Z w (.N, d) (vOf d) := rp_of (Z := Z) (H := w.N) hs
theorem asB_some {r : TD} {b : Bool} (h : asB r = some b) : r.2 = .bl b := by
  obtain ⟨t, d⟩ := r
  unfold asB at h
  dsimp only at h
  split at h
  · cases h; rfl
  · cases h
end
/-! ### expressions -/
section
variable {X : Cx} {cl : Str → Option Addr} {a b c : Expr} {es : List Expr} {f g h : FE} {fa : FA} {ct dt : FT} {pos : Pos}
theorem je_var (i : Nat) {x : Str} {pos : Pos} (hN : X.N[i]? = some x := by rfl) (hv : Vis X.env.scope x := by first | exact Or.inl rfl | exact Or.inr (Or.inl rfl) | exact Or.inr (Or.inr rfl))
    (hd : (x == ("__debug__" : Str)) = false := by decide) (hcd : (x == ("__classdict__" : Str)) = false := by decide) : PE X (.Name x pos) (tE (zx X cl) (sVar i)) := by
  refine pe_w (pe_var (i := i) hN hv hd hcd) fun σ H Q ⟨env, w, r, e, k, hr, q⟩ => ?_
  subst e
  unfold sVar at hr
  split at hr
  · rename_i t d he
    cases hr
    obtain ⟨o, ho, v, rfl, hv⟩ := k.sl i _ he
    refine ⟨v, ho, q v w (Gr.refl k.wf) (RV.nm k.wf ?_)⟩
    rcases hv with ⟨rfl, hv⟩ | ⟨rfl, hv⟩ <;> exact hv
  · rename_i ds he
    cases hr
    obtain ⟨o, ho, p, vs, rfl, h1, h2, _, h3⟩ := k.sl i _ he
    exact ⟨_, ho, q _ w (Gr.refl k.wf) ⟨p, vs, ds, rfl, rfl, h1, h2, h3⟩⟩
  · cases hr
theorem je_lit {d : D} {e : Expr} (h : PE X e (tC (vOf d))) (hs : isS d = true) : PE X e (tE (zx X cl) (sLit d)) :=
  pe_w h fun σ H Q ⟨env, w, r, e, k, hr, q⟩ => by
    subst e
    cases hr
    exact q _ w (Gr.refl k.wf) (nN d hs)
theorem je_int {i : Int} {j : Nat} {pos : Pos} : PE X (.Constant (.int i) j pos) (tE (zx X cl) (sLit (.int i))) := je_lit (d := .int i) pe_int rfl
theorem je_bl {b : Bool} {j : Nat} {pos : Pos} : PE X (.Constant (.bool b) j pos) (tE (zx X cl) (sLit (.bl b))) := je_lit (d := .bl b) pe_bl rfl
theorem je_non {j : Nat} {pos : Pos} : PE X (.Constant .none j pos) (tE (zx X cl) (sLit .non)) := je_lit (d := .non) pe_non rfl
theorem je_str {z : Str} {j : Nat} {pos : Pos} : PE X (.Constant (.str z) j pos) (tE (zx X cl) (sLit (.str z))) := je_lit (d := .str z) pe_str rfl
/-- a constant of the module -/
structure Gc (K : PySem.W.Frag) (mg : Str → Option Value) (cl : Str → Option Addr) (x : Str) (d : D) : Prop where
  ex : ∃ u v, mg x = some u ∧ RelV v u ∧ Rp ⟨K, cl⟩ (fun _ => none) v d
theorem same_none (H : Hp) : Same (fun _ => none) H := fun _ _ e => nomatch e
theorem je_gl {x : Str} {d : D} {pos : Pos} (G : Gc X.K X.mg cl x d) (hg : Gl X x := by rfl) (hdb : (x == ("__debug__" : Str)) = false := by decide) : PE X (.Name x pos) (tE (zx X cl) (sLit d)) := by
  obtain ⟨u, v, hm, r, hr⟩ := G.ex
  refine pe_w (pe_glob (v := v) hg hm r hdb) fun σ H Q ⟨env, w, r, e, k, hz, q⟩ => ?_
  subst e
  cases hz
  exact q v w (Gr.refl k.wf) (Rp.mono (same_none w.N) hr)
/-- operators by data -/
def rO (Z : Zc) (o : TD → TD → Option TD) : R2 := fun x y H Q => ∃ w rx ry z, w.H = H ∧ Wf w ∧ RV Z w rx x ∧ RV Z w ry y ∧ o rx ry = some z ∧ ∀ v w', Gr w w' → RV Z w' z v → Q v w'.H
theorem sOp_rd {o : TD → TD → Option TD} {σ : L2.St} {H : Hp} {Q : VK} {Z : Zc} (hh : tE Z (sOp o f g) σ H Q) : tOp (rO Z o) (tE Z f) (tE Z g) σ H Q := by
  obtain ⟨env, w, r, e, k, hr, q⟩ := hh
  subst e
  obtain ⟨x, hx, hr⟩ := Option.bind_eq_some_iff.mp hr
  obtain ⟨y, hy, hr⟩ := Option.bind_eq_some_iff.mp hr
  refine ⟨env, w, x, rfl, k, hx, fun v w1 g1 r1 => ⟨env, w1, y, rfl, k.mono g1, hy, fun u w2 g2 r2 => ?_⟩⟩
  exact ⟨w2, x, y, r, rfl, g2.wf, r1.mono g2, r2, hr, fun v' w3 g3 r3 => q v' w3 ((g1.trans g2).trans g3) r3⟩
theorem je_op {op : Operator} {o : TD → TD → Option TD} (ho : OpR X (binaryOp op) (rO (zx X cl) o)) (ha : PE X a (tE (zx X cl) f)) (hb : PE X b (tE (zx X cl) g)) : PE X (.BinOp a op b pos) (tE (zx X cl) (sOp o f g)) :=
  pe_w (pe_op ho ha hb) fun _ _ _ hh => sOp_rd hh
theorem je_cmp {op : CmpOp} {o : TD → TD → Option TD} (ho : OpR X (compareOp op) (rO (zx X cl) o)) (ha : PE X a (tE (zx X cl) f)) (hb : PE X b (tE (zx X cl) g)) (hm : behindInMarks op b = false := by first | exact nomark _ | rfl) : PE X (.Compare a [op] [b] pos) (tE (zx X cl) (sOp o f g)) :=
  pe_w (pe_cmpR ho ha hb hm) fun _ _ _ hh => sOp_rd hh
/-- a value that is a bool, as a test -/
theorem sBl_rd {σ : L2.St} {H : Hp} {Q : Bool → Hp → Prop} {Z : Zc} (hh : tT Z (sBl f) σ H Q) : tE Z f σ H fun x H' => ∃ k, x = .bl k ∧ Q k H' := by
  obtain ⟨env, w, r, e, k, hr, q⟩ := hh
  subst e
  obtain ⟨x, hx, hr⟩ := Option.bind_eq_some_iff.mp hr
  refine ⟨env, w, x, rfl, k, hx, fun v w1 g1 r1 => ⟨r, ?_, q w1 g1⟩⟩
  obtain ⟨t, d⟩ := x
  cases asB_some hr
  exact rv_bl g1.wf r1
theorem jt_cmp {op : CmpOp} {o : TD → TD → Option TD} (ho : OpR X (compareOp op) (rO (zx X cl) o)) (ha : PE X a (tE (zx X cl) f)) (hb : PE X b (tE (zx X cl) g)) (hm : behindInMarks op b = false := by first | exact nomark _ | rfl) : PT X (.Compare a [op] [b] pos) (tT (zx X cl) (sBl (sOp o f g))) :=
  pt_w (pt_cmpR ho ha hb hm) fun σ H Q hh => sOp_rd (Q := fun x H' => ∃ k, x = .bl k ∧ Q k H') (sBl_rd hh)
theorem tru_v {r : TD} {v : V} {w : Wd} {k : Bool} {Z : Zc} (hw : Wf w) (hr : tru r = some k) (h : RV Z w r v) : TruV Z.K v w.H k := by
  obtain ⟨t, d⟩ := r
  unfold tru at hr
  dsimp only at hr
  split at hr
  · cases hr; rw [rv_non hw h]; exact rfl
  · cases hr; rw [rv_bl hw h]; exact rfl
  · cases hr; rw [rv_int hw h]; exact rfl
  · split at hr
    · rename_i hl
      cases hr; rw [rv_str hw h]; exact ⟨lim_le hl, rfl⟩
    · cases hr
  · cases hr
    obtain ⟨p, vs, rfl, h1, h2⟩ := h.lst hw
    refine .inl ⟨vs, SqL.of h1, ?_⟩
    cases h2 <;> rfl
  · cases hr
    obtain ⟨p, vs, rfl, h1, h2⟩ := h.scr hw
    refine .inl ⟨vs, h1, ?_⟩
    cases h2 <;> rfl
  · cases hr
    obtain ⟨p, vs, rfl, h1, h2⟩ := h.tup hw
    refine .inr (.inl ⟨vs, h1, ?_⟩)
    cases h2 <;> rfl
  · cases hr
/-- any value by its truth, as a test -/
theorem jt_v (ha : PE X a (tE (zx X cl) f)) (he : ∀ whole, isTrue a X.env whole = (do let v ← whole; standAt a.pos; holding [v] (truthy v)) := by intro _; rfl) : PT X a (tT (zx X cl) (sTru f)) := by
  refine pt_w (pt_truth ha he) fun σ H Q ⟨env, w, r, e, k, hr, q⟩ => ?_
  subst e
  obtain ⟨x, hx, hr⟩ := Option.bind_eq_some_iff.mp hr
  exact ⟨env, w, x, rfl, k, hx, fun v w1 g1 r1 => ⟨r, tru_v g1.wf hr r1, q w1 g1⟩⟩
theorem jt_not (ha : PT X a (tT (zx X cl) ct)) : PT X (.UnaryOp .Not a pos) (tT (zx X cl) (sNotT ct)) := by
  refine pt_w (pt_not ha) fun σ H Q ⟨env, w, r, e, k, hr, q⟩ => ?_
  subst e
  obtain ⟨x, hx, hr⟩ := Option.map_eq_some_iff.mp hr
  subst hr
  exact ⟨env, w, x, rfl, k, hx, fun w1 g1 => q w1 g1⟩
theorem jw_and1 (ha : PT X a (tT (zx X cl) ct)) : PW X (.BoolOp .And [a] pos) (tT (zx X cl) ct) := pw_and1 ha
theorem jw_or1 (ha : PT X a (tT (zx X cl) ct)) : PW X (.BoolOp .Or [a] pos) (tT (zx X cl) ct) := pw_or1 ha
theorem jw_and (ha : PT X a (tT (zx X cl) ct)) (hb : PW X (.BoolOp .And (b :: es) pos) (tT (zx X cl) dt)) : PW X (.BoolOp .And (a :: b :: es) pos) (tT (zx X cl) (sAndT ct dt)) := by
  refine pw_w (pw_and ha hb) fun σ H Q ⟨env, w, r, e, k, hr, q⟩ => ?_
  subst e
  obtain ⟨x, hx, hr⟩ := Option.bind_eq_some_iff.mp hr
  refine ⟨env, w, x, rfl, k, hx, fun w1 g1 => ?_⟩
  cases x with
  | true => exact ⟨env, w1, r, rfl, k.mono g1, hr, fun w2 g2 => q w2 (g1.trans g2)⟩
  | false =>
    cases hr
    exact q w1 g1
theorem jw_or (ha : PT X a (tT (zx X cl) ct)) (hb : PW X (.BoolOp .Or (b :: es) pos) (tT (zx X cl) dt)) : PW X (.BoolOp .Or (a :: b :: es) pos) (tT (zx X cl) (sOrT ct dt)) := by
  refine pw_w (pw_or ha hb) fun σ H Q ⟨env, w, r, e, k, hr, q⟩ => ?_
  subst e
  obtain ⟨x, hx, hr⟩ := Option.bind_eq_some_iff.mp hr
  refine ⟨env, w, x, rfl, k, hx, fun w1 g1 => ?_⟩
  cases x with
  | false => exact ⟨env, w1, r, rfl, k.mono g1, hr, fun w2 g2 => q w2 (g1.trans g2)⟩
  | true =>
    cases hr
    exact q w1 g1
theorem jt_w (ha : PW X a (tT (zx X cl) ct)) : PT X a (tT (zx X cl) ct) := ha.pt
theorem je_and1 (ha : PE X a (tE (zx X cl) f)) : PE X (.BoolOp .And [a] pos) (tE (zx X cl) f) := pe_one ha
theorem je_or1 (ha : PE X a (tE (zx X cl) f)) : PE X (.BoolOp .Or [a] pos) (tE (zx X cl) f) := pe_one ha
theorem je_and (ha : PE X a (tE (zx X cl) f)) (hb : PE X (.BoolOp .And (b :: es) pos) (tE (zx X cl) g)) : PE X (.BoolOp .And (a :: b :: es) pos) (tE (zx X cl) (sAndV f g)) := by
  refine pe_w (pe_and ha hb) fun σ H Q ⟨env, w, r, e, k, hr, q⟩ => ?_
  subst e
  obtain ⟨x, hx, hr⟩ := Option.bind_eq_some_iff.mp hr
  obtain ⟨y, hy, hx⟩ := Option.bind_eq_some_iff.mp hx
  refine ⟨env, w, y, rfl, k, hy, fun v w1 g1 r1 => ⟨x, ?_, ?_⟩⟩
  · obtain ⟨t, d⟩ := y
    cases asB_some hx
    exact rv_bl g1.wf r1
  · cases x with
    | true => exact ⟨env, w1, r, rfl, k.mono g1, hr, fun v w2 g2 r2 => q v w2 (g1.trans g2) r2⟩
    | false =>
      cases hr
      exact q _ w1 g1 (nN (.bl false) rfl)
theorem je_or (ha : PE X a (tE (zx X cl) f)) (hb : PE X (.BoolOp .Or (b :: es) pos) (tE (zx X cl) g)) : PE X (.BoolOp .Or (a :: b :: es) pos) (tE (zx X cl) (sOrV f g)) := by
  refine pe_w (pe_or ha hb) fun σ H Q ⟨env, w, r, e, k, hr, q⟩ => ?_
  subst e
  obtain ⟨x, hx, hr⟩ := Option.bind_eq_some_iff.mp hr
  obtain ⟨y, hy, hx⟩ := Option.bind_eq_some_iff.mp hx
  refine ⟨env, w, y, rfl, k, hy, fun v w1 g1 r1 => ⟨x, ?_, ?_⟩⟩
  · obtain ⟨t, d⟩ := y
    cases asB_some hx
    exact rv_bl g1.wf r1
  · cases x with
    | false => exact ⟨env, w1, r, rfl, k.mono g1, hr, fun v w2 g2 r2 => q v w2 (g1.trans g2) r2⟩
    | true =>
      cases hr
      exact q _ w1 g1 (nN (.bl true) rfl)
theorem je_not (ha : PE X a (tE (zx X cl) f)) : PE X (.UnaryOp .Not a pos) (tE (zx X cl) (sNotV f)) := by
  refine pe_w (pe_not ha) fun σ H Q ⟨env, w, r, e, k, hr, q⟩ => ?_
  subst e
  obtain ⟨x, hx, hr⟩ := Option.map_eq_some_iff.mp hr
  obtain ⟨y, hy, hx⟩ := Option.bind_eq_some_iff.mp hx
  subst hr
  refine ⟨env, w, y, rfl, k, hy, fun v w1 g1 r1 => ⟨x, ?_, q _ w1 g1 (nN (.bl (!x)) rfl)⟩⟩
  obtain ⟨t, d⟩ := y
  cases asB_some hx
  exact rv_bl g1.wf r1
theorem je_ife (hc : PT X c (tT (zx X cl) ct)) (ha : PE X a (tE (zx X cl) f)) (hb : PE X b (tE (zx X cl) g)) : PE X (.IfExp c a b pos) (tE (zx X cl) (sIfe ct f g)) := by
  refine pe_w (pe_ifExp hc ha hb) fun σ H Q ⟨env, w, r, e, k, hr, q⟩ => ?_
  subst e
  obtain ⟨x, hx, hr⟩ := Option.bind_eq_some_iff.mp hr
  refine ⟨env, w, x, rfl, k, hx, fun w1 g1 => ?_⟩
  cases x with
  | true => exact ⟨env, w1, r, rfl, k.mono g1, hr, fun v w2 g2 r2 => q v w2 (g1.trans g2) r2⟩
  | false => exact ⟨env, w1, r, rfl, k.mono g1, hr, fun v w2 g2 r2 => q v w2 (g1.trans g2) r2⟩
theorem sCh_rd {o p : TD → TD → Option TD} {σ : L2.St} {H : Hp} {Q : VK} {Z : Zc} (hh : tE Z (sCh o p f g h) σ H Q) : tChain (rO Z o) (rO Z p) (tE Z f) (tE Z g) (tE Z h) σ H Q := by
  obtain ⟨env, w, r, e, k, hr, q⟩ := hh
  subst e
  obtain ⟨x, hx, hr⟩ := Option.bind_eq_some_iff.mp hr
  obtain ⟨y, hy, hr⟩ := Option.bind_eq_some_iff.mp hr
  obtain ⟨b, hb, hr⟩ := Option.bind_eq_some_iff.mp hr
  obtain ⟨z, hz, hb⟩ := Option.bind_eq_some_iff.mp hb
  refine ⟨env, w, x, rfl, k, hx, fun v w1 g1 r1 => ⟨env, w1, y, rfl, k.mono g1, hy, fun u w2 g2 r2 => ?_⟩⟩
  refine ⟨w2, x, y, z, rfl, g2.wf, r1.mono g2, r2, hz, fun v' w3 g3 r3 => ⟨b, ?_, ?_⟩⟩
  · obtain ⟨t, d⟩ := z
    cases asB_some hb
    exact rv_bl g3.wf r3
  · cases b with
    | false =>
      cases hr
      exact q _ w3 ((g1.trans g2).trans g3) (nN (.bl false) rfl)
    | true =>
      obtain ⟨c', hc', hr⟩ := Option.bind_eq_some_iff.mp hr
      refine ⟨env, w3, c', rfl, k.mono ((g1.trans g2).trans g3), hc', fun v4 w4 g4 r4 => ?_⟩
      exact ⟨w4, y, c', r, rfl, g4.wf, (r2.mono g3).mono g4, r4, hr, fun v5 w5 g5 r5 => q v5 w5 ((((g1.trans g2).trans g3).trans g4).trans g5) r5⟩
theorem je_chain {op op' : CmpOp} {o p : TD → TD → Option TD} (ho : OpR X (compareOp op) (rO (zx X cl) o)) (ho' : OpR X (compareOp op') (rO (zx X cl) p)) (ha : PE X a (tE (zx X cl) f)) (hb : PE X b (tE (zx X cl) g)) (hc : PE X c (tE (zx X cl) h))
    (hm : lastMarks [op, op'] [b, c] = false := by with_unfolding_all rfl) : PE X (.Compare a [op, op'] [b, c] pos) (tE (zx X cl) (sCh o p f g h)) :=
  pe_w (pe_chain ho ho' ha hb hc hm) fun _ _ _ hh => sCh_rd hh
theorem jt_chain {op op' : CmpOp} {o p : TD → TD → Option TD} (ho : OpR X (compareOp op) (rO (zx X cl) o)) (ho' : OpR X (compareOp op') (rO (zx X cl) p)) (ha : PE X a (tE (zx X cl) f)) (hb : PE X b (tE (zx X cl) g)) (hc : PE X c (tE (zx X cl) h))
    (hm : lastMarks [op, op'] [b, c] = false := by with_unfolding_all rfl) : PT X (.Compare a [op, op'] [b, c] pos) (tT (zx X cl) (sBl (sCh o p f g h))) :=
  pt_w (pt_chain ho ho' ha hb hc hm) fun σ H Q hh => sCh_rd (Q := fun x H' => ∃ k, x = .bl k ∧ Q k H') (sBl_rd hh)
/-! arguments -/
theorem ja_nil : PA X [] (tA (zx X cl) sNil) := by
  refine pa_w pa_nil fun σ H Q ⟨env, w, r, e, k, hr, q⟩ => ?_
  subst e
  cases hr
  exact q [] w (Gr.refl k.wf) trivial
theorem ja_cons (ha : PE X a (tE (zx X cl) f)) (hr : PA X es (tA (zx X cl) fa)) (hs : starEach (a :: es) X.env = (false, eval a X.env) :: starEach es X.env := by rfl) : PA X (a :: es) (tA (zx X cl) (sCons f fa)) := by
  refine pa_w (pa_cons ha hr hs) fun σ H Q ⟨env, w, r, e, k, hr, q⟩ => ?_
  subst e
  obtain ⟨x, hx, hr⟩ := Option.bind_eq_some_iff.mp hr
  obtain ⟨xs, hxs, hr⟩ := Option.bind_eq_some_iff.mp hr
  cases hr
  exact ⟨env, w, x, rfl, k, hx, fun v w1 g1 r1 => ⟨env, w1, xs, rfl, k.mono g1, hxs, fun vs w2 g2 r2 => q _ w2 (g1.trans g2) ⟨r1.mono g2, r2⟩⟩⟩
/-- built-ins by data -/
def rC (Z : Zc) (o : List TD → Option TD) : List V → Hp → VK → Prop := fun xs H Q => ∃ w rs z, w.H = H ∧ Wf w ∧ RVs Z w rs xs ∧ o rs = some z ∧ ∀ v w', Gr w w' → RV Z w' z v → Q v w'.H
theorem sB_rd {o : List TD → Option TD} {σ : L2.St} {H : Hp} {Q : VK} {Z : Zc} (hh : tE Z (sB o fa) σ H Q) : tA Z fa σ H fun xs H1 => rC Z o xs H1 Q := by
  obtain ⟨env, w, r, e, k, hr, q⟩ := hh
  subst e
  obtain ⟨x, hx, hr⟩ := Option.bind_eq_some_iff.mp hr
  exact ⟨env, w, x, rfl, k, hx, fun vs w1 g1 r1 => ⟨w1, x, r, rfl, g1.wf, r1, hr, fun v w2 g2 r2 => q v w2 (g1.trans g2) r2⟩⟩
theorem je_b {id : String} {x : Str} {p : Pos} {o : List TD → Option TD} (hc : CallR X (.builtin id) (rC (zx X cl) o)) (hm : X.mg x = none) (hv : bootBuiltins x = some (.builtin id)) (ha : PA X (a :: es) (tA (zx X cl) fa)) (hg : Gl X x := by rfl)
    (hn : x ≠ "__name__" := by decide) (hdb : (x == ("__debug__" : Str)) = false := by decide) (he : starEach (a :: es) X.env = (false, eval a X.env) :: starEach es X.env := by rfl) (hpl : (backTo pos (starEach es X.env)).any (·.1) = false := by rfl) :
    PE X (.Call (.Name x p) (a :: es) [] pos) (tE (zx X cl) (sB o fa)) := pe_w (pe_callB hc hg hm hv ha hn hdb he hpl) fun _ _ _ hh => sB_rd hh
theorem je_ty {T : String} {x : Str} {p : Pos} {o : List TD → Option TD} (hc : CallR X (.type T) (rC (zx X cl) o)) (hm : X.mg x = none) (hv : bootBuiltins x = some (.type T)) (ha : PA X (a :: es) (tA (zx X cl) fa)) (hg : Gl X x := by rfl)
    (hn : x ≠ "__name__" := by decide) (hdb : (x == ("__debug__" : Str)) = false := by decide) (he : starEach (a :: es) X.env = (false, eval a X.env) :: starEach es X.env := by rfl) (hpl : (backTo pos (starEach es X.env)).any (·.1) = false := by rfl) :
    PE X (.Call (.Name x p) (a :: es) [] pos) (tE (zx X cl) (sB o fa)) := pe_w (pe_callTy hc hg hm hv ha hn hdb he hpl) fun _ _ _ hh => sB_rd hh
end
end Vf
namespace Vf
open PySem L2
/-! ### operators, by data -/
def bitsOk (i j : Int) : Bool := decide (Builtin.Int.intBits i + Builtin.Int.intBits j ≤ 134217728)
def cell (t : Tg) : Tg := match t with | .O => .T | t => t
/-- the tag of a thing that holds these -/
def tagL : List TD → Tg
  | [] => .N
  | r :: rs => mt2 (cell r.1) (tagL rs)
def catL (a b : TD) : Option (Tg × List D) := match a.2, b.2 with
  | .lst xs, .lst ys => if xs.length + ys.length ≤ lim then some (mt2 (el a.1) (el b.1), xs ++ ys) else none
  | _, _ => none
def oAdd (a b : TD) : Option TD := match a.2, b.2 with
  | .int i, .int j => some (.N, .int (i + j))
  | .str x, .str y => if x.length + y.length ≤ lim then some (.N, .str (x ++ y)) else none
  | .tup xs, .tup ys => if xs.length + ys.length ≤ lim then some (mt2 (el a.1) (el b.1), .tup (xs ++ ys)) else none
  | .lst xs, .lst ys => if xs.length + ys.length ≤ lim then some (mt2 (el a.1) (el b.1), .lst (xs ++ ys)) else none
  | _, _ => none
def oSub (a b : TD) : Option TD := match a.2, b.2 with
  | .int i, .int j => some (.N, .int (i - j))
  | _, _ => none
def repS (z : Str) (n : Nat) : Str := ⟨(List.replicate n z.cps.toList).flatten.toArray⟩
noncomputable def repL (a b : TD) : Option (Tg × List D) := match a.2, b.2 with
  | .lst xs, .int k => cif (k.natAbs ≤ lim ∧ xs.length * k.toNat ≤ lim) (some (el a.1, (List.replicate k.toNat xs).flatten)) none
  | _, _ => none
noncomputable def oMul (a b : TD) : Option TD := match a.2, b.2 with
  | .int i, .int j => cif (bitsOk i j = true) (some (.N, .int (i * j))) none
  | .lst xs, .int k => cif (k.natAbs ≤ lim ∧ xs.length * k.toNat ≤ lim) (some (el a.1, .lst (List.replicate k.toNat xs).flatten)) none
  | .str z, .int k => cif (0 ≤ k ∧ k.natAbs ≤ lim ∧ z.length * k.toNat ≤ lim) (some (.N, .str (repS z k.toNat))) none
  | _, _ => none
noncomputable def oFd (a b : TD) : Option TD := match a.2, b.2 with
  | .int i, .int j => cif (0 < j ∧ j < 18446744073709551616) (some (.N, .int (i / j))) none
  | _, _ => none
noncomputable def oMod (a b : TD) : Option TD := match a.2, b.2 with
  | .int i, .int j => cif (0 < j) (some (.N, .int (i % j))) none
  | _, _ => none
noncomputable def oPow (a b : TD) : Option TD := match a.2, b.2 with
  | .int i, .int j => cif (0 ≤ j ∧ j ≤ 1000000 ∧ i.natAbs < 18446744073709551616) (some (.N, .int (i ^ j.toNat))) none
  | _, _ => none
mutual
def py : D → PyData
  | .non => .none | .bl b => .bool b | .int i => .int i | .str s => .str s
  | .lst xs => .list (pyL xs) | .scr xs => .list (pyL xs) | .tup xs => .tuple (pyL xs)
  | .ins _ _ _ => .none | .dic _ _ => .none
def pyL : List D → List PyData
  | [] => []
  | x :: xs => py x :: pyL xs
end
mutual
def pyOk : D → Bool
  | .non => true | .bl _ => true | .int _ => true | .str _ => true
  | .lst xs => pyOkL xs | .scr xs => pyOkL xs | .tup xs => pyOkL xs
  | .ins _ _ _ => false | .dic _ _ => false
def pyOkL : List D → Bool
  | [] => true
  | x :: xs => pyOk x && pyOkL xs
end
def eqD (a b : D) : Option Bool := match a, b with
  | .int i, .int j => some (decide (i = j))
  | .str x, .str y => some (decide (x = y))
  | .bl x, .bl y => some (decide (x = y))
  | .non, .non => some true
  | .int _, .non => some false
  | .non, .int _ => some false
  | .str _, .non => some false
  | .non, .str _ => some false
  | .int _, .str _ => some false
  | .str _, .int _ => some false
  | a, b => if pyOk a && pyOk b && SeqAt.shaped (py a) && SeqAt.shaped (py b) then some (PyData.eqv (py a) (py b)) else none
def oEq (a b : TD) : Option TD := (eqD a.2 b.2).map fun k => (.N, .bl k)
def oNe (a b : TD) : Option TD := (eqD a.2 b.2).map fun k => (.N, .bl (!k))
noncomputable def oLt (a b : TD) : Option TD := match a.2, b.2 with | .int i, .int j => some (.N, .bl (cdec (i < j))) | _, _ => none
noncomputable def oLe (a b : TD) : Option TD := match a.2, b.2 with | .int i, .int j => some (.N, .bl (cdec (i ≤ j))) | _, _ => none
noncomputable def oGt (a b : TD) : Option TD := match a.2, b.2 with | .int i, .int j => some (.N, .bl (cdec (j < i))) | _, _ => none
noncomputable def oGe (a b : TD) : Option TD := match a.2, b.2 with | .int i, .int j => some (.N, .bl (cdec (j ≤ i))) | _, _ => none
def eqS (x y : D) : Bool := eqV (vOf x) (vOf y)
def inD (a b : D) : Option Bool := match b with
  | .lst xs => if isS a && xs.all isS then some (xs.any fun y => eqS y a) else none
  | .scr xs => if isS a && xs.all isS then some (xs.any fun y => eqS y a) else none
  | .tup xs => if isS a && xs.all isS then some (xs.any fun y => eqS y a) else none
  | .str z => match a with
    | .str s => if s.length = 1 then some (decide (s.cps.getD 0 0 ∈ z.cps.toList)) else none
    | _ => none
  | _ => none
def oIn (a b : TD) : Option TD := (inD a.2 b.2).map fun k => (.N, .bl k)
def oNi (a b : TD) : Option TD := (inD a.2 b.2).map fun k => (.N, .bl (!k))
def isD (a b : D) : Option Bool := match b with
  | .non => match a with | .non => some true | _ => some false
  | .bl y => match a with | .bl x => some (decide (x = y)) | _ => none
  | _ => none
def oIs (a b : TD) : Option TD := (isD a.2 b.2).map fun k => (.N, .bl k)
def oIsN (a b : TD) : Option TD := (isD a.2 b.2).map fun k => (.N, .bl (!k))
def ixD (a : TD) (i : Int) : Option TD := match a.2 with
  | .lst xs => (atI xs i).map fun d => nm (el a.1, d)
  | .scr xs => (atI xs i).map fun d => nm (el a.1, d)
  | .tup xs => (atI xs i).map fun d => nm (el a.1, d)
  | .str z => if z.length ≤ lim then (atI z.cps.toList i).map fun c => (.N, .str ⟨#[c]⟩) else none
  | _ => none
def oIx (a b : TD) : Option TD := match b.2 with | .int i => ixD a i | _ => none
section
variable {Z : Zc} {w : Wd}
theorem fin1 {Q : VK} {d : D} {H : Hp} (hw : Wf w) (e : w.H = H) (hs : isS d = true) (q : ∀ v w', Gr w w' → RV Z w' (.N, d) v → Q v w'.H) : Q (vOf d) H := by
  subst e
  exact q _ w (Gr.refl hw) (nN d hs)
theorem tagL_ne : ∀ rs, tagL rs ≠ .O
  | [] => by decide
  | r :: rs => mt2_ne _ _
theorem cell_rv {t : Tg} {d : D} {v : V} (hw : Wf w) (h : RV Z w (t, d) v) : RV Z w (cell t, d) v := by
  cases t with
  | O => exact h.top hw
  | N => exact h
  | B => exact h
  | T => exact h
theorem rvs_items (hw : Wf w) : ∀ {rs : List TD} {vs : List V}, RVs Z w rs vs → RpL Z (w.rd (tagL rs)) vs (rs.map (·.2))
  | [], [], _ => .nil
  | (t, d) :: rs, v :: vs, ⟨h, r⟩ => by
    have h1 := cell_rv hw h
    have hc : cell t ≠ .O := by cases t <;> decide
    have h2 := RV.rp hc h1
    refine .cons (Rp.mono ?_ h2) (RpL.mono ?_ (rvs_items hw r))
    · show Same (w.rd (cell t)) (w.rd (mt2 (cell t) (tagL rs)))
      cases t <;> cases tagL rs <;> first | exact .refl _ | exact hw.nb | exact hw.bh | exact hw.nh
    · show Same (w.rd (tagL rs)) (w.rd (mt2 (cell t) (tagL rs)))
      have := tagL_ne rs
      cases h : tagL rs <;> cases t <;> first | exact .refl _ | exact hw.nb | exact hw.bh | exact hw.nh | exact (this h).elim
  | [], _ :: _, h => h.elim
  | _ :: _, [], h => h.elim
end
section
variable {X : Cx} {cl : Str → Option Addr}
theorem or_add : OpR X (binaryOp .Add) (rO (zx X cl) oAdd) := by
  rintro pins s σ H x y v u Q I rx ry ⟨w, ⟨t, d⟩, ⟨t', d'⟩, z, eH, hw, ha, hb, ho, q⟩
  unfold oAdd at ho
  dsimp only at ho
  split at ho
  · cases ho
    exact op_add pins s σ H x y v u Q I rx ry ⟨_, _, rv_int hw ha, rv_int hw hb, fin1 hw eH rfl q⟩
  · split at ho
    · rename_i hl
      cases ho
      exact op_add_str pins s σ H x y v u Q I rx ry ⟨_, _, rv_str hw ha, rv_str hw hb, lim_le hl, fin1 hw eH rfl q⟩
    · cases ho
  · split at ho
    · rename_i xs ys hl
      cases ho
      have ha' := ha
      have hb' := hb
      obtain ⟨p, vs, rfl, h1, h2⟩ := ha.tup hw
      obtain ⟨p', vs', rfl, h1', h2'⟩ := hb.tup hw
      subst eH
      refine op_catA pins s σ w.H _ _ v u Q I rx ry ⟨_, _, _, _, rfl, rfl, h1, h1', lim_le (by rw [h2.length, h2'.length]; exact hl), fun e => ?_, fun _ e => ?_, fun n1 n2 np hnp => ?_⟩
      · subst e
        cases h2
        rw [List.nil_append] at q
        refine q _ w (Gr.refl hw) (RV.of (mt2_ne _ _) (Rp.mono (mt2_r hw (el t) t') ?_))
        cases t' <;> first | exact hb' | (obtain ⟨_, _, _, _, z, _⟩ := hb'; cases z)
      · subst e
        cases h2'
        rw [List.append_nil] at q
        refine q _ w (Gr.refl hw) (RV.of (mt2_ne _ _) (Rp.mono (mt2_l hw t (el t')) ?_))
        cases t <;> first | exact ha' | (obtain ⟨_, _, _, _, z, _⟩ := ha'; cases z)
      · have g := Gr.put hw (t := mt2 (el t) (el t')) (o := .tup (vs ++ vs')) hnp
        have := q _ _ g (new_tup hw (mt2_ne _ _) hnp ((RpL.mono (mt2_l hw t (el t')) h2).append (RpL.mono (mt2_r hw (el t) t') h2')))
        rw [put_H] at this
        exact this
    · cases ho
  · split at ho
    · rename_i xs ys hl
      cases ho
      obtain ⟨p, vs, rfl, h1, h2⟩ := ha.lst hw
      obtain ⟨p', vs', rfl, h1', h2'⟩ := hb.lst hw
      subst eH
      refine op_cat pins s σ w.H _ _ v u Q I rx ry ⟨_, _, _, _, rfl, rfl, h1, h1', lim_le (by rw [h2.length, h2'.length]; exact hl), fun np hnp => ?_⟩
      have g := Gr.put hw (t := mt2 (el t) (el t')) (o := .lst (vs ++ vs')) hnp
      have := q _ _ g (new_lst hw (mt2_ne _ _) hnp ((RpL.mono (mt2_l hw t (el t')) h2).append (RpL.mono (mt2_r hw (el t) t') h2')))
      rw [put_H] at this
      exact this
    · cases ho
  · cases ho
theorem or_sub : OpR X (binaryOp .Sub) (rO (zx X cl) oSub) := by
  rintro pins s σ H x y v u Q I rx ry ⟨w, ⟨t, d⟩, ⟨t', d'⟩, z, eH, hw, ha, hb, ho, q⟩
  unfold oSub at ho
  dsimp only at ho
  split at ho
  · cases ho
    exact op_sub pins s σ H x y v u Q I rx ry ⟨_, _, rv_int hw ha, rv_int hw hb, fin1 hw eH rfl q⟩
  · cases ho
theorem bitsOk_mul {i j : Int} (h : bitsOk i j = true) : IntMulOk i j := IntMulOk.of_le (Nat.le_refl _) (Nat.le_refl _) (of_decide_eq_true h)
theorem or_mul : OpR X (binaryOp .Mult) (rO (zx X cl) oMul) := by
  rintro pins s σ H x y v u Q I rx ry ⟨w, ⟨t, d⟩, ⟨t', d'⟩, z, eH, hw, ha, hb, ho, q⟩
  unfold oMul at ho
  dsimp only at ho
  split at ho
  · unfold cif at ho
    split at ho
    · rename_i i j hl
      cases ho
      have e1 := rv_int hw ha
      have e2 := rv_int hw hb
      subst e1 e2
      obtain ⟨tx, rfl⟩ := rx
      obtain ⟨ty, rfl⟩ := ry
      exact PyProof.Rows.mul_int ⟨.int (i * j), H, I.tok _, ⟨_, rfl⟩, fin1 hw eH rfl q⟩ (bitsOk_mul hl)
    · cases ho
  · unfold cif at ho
    split at ho
    · rename_i xs k hl
      cases ho
      obtain ⟨p, vs, rfl, h1, h2⟩ := ha.lst hw
      have e2 := rv_int hw hb
      subst eH e2
      have hk : k.natAbs ≤ 1000000 := hl.1
      refine op_rep pins s σ w.H _ _ v u Q I rx ry ⟨_, _, _, rfl, rfl, h1, by omega, by omega, lim_le (by rw [h2.length]; exact hl.2), fun np hnp => ?_⟩
      have g := Gr.put hw (t := el t) (o := .lst (List.replicate k.toNat vs).flatten) hnp
      have := q _ _ g (new_lst hw (el_ne _) hnp (h2.rep _))
      rw [put_H] at this
      exact this
    · cases ho
  · unfold cif at ho
    split at ho
    · rename_i z0 k hl
      cases ho
      have e1 := rv_str hw ha
      have e2 := rv_int hw hb
      subst e1 e2
      obtain ⟨tx, rfl⟩ := rx
      obtain ⟨ty, rfl⟩ := ry
      have hz : sizeLine = 16777216 := sizeLine_eq
      have l1 : k.natAbs ≤ 1000000 := hl.2.1
      have l2 : z0.length * k.toNat ≤ 1000000 := hl.2.2
      have sz : ∀ (m : Nat), (List.foldl (fun x1 x2 => x1 ++ x2) #[] (List.replicate m z0.cps)) = (List.replicate m z0.cps.toList).flatten.toArray := fun m => by
        have aux : ∀ (l : List (Array Nat)) (acc : Array Nat), l.foldl (fun x1 x2 => x1 ++ x2) acc = acc ++ (l.map Array.toList).flatten.toArray := by
          intro l
          induction l with
          | nil => intro acc; simp
          | cons b r ih => intro acc; rw [List.foldl_cons, ih]; apply Array.toList_inj.mp; simp
        rw [aux]
        simp
      refine PySem.P.mul_str ?_ ?_ ?_ ?_
      · rw [decide_eq_false (by omega), decide_eq_false (by omega)] <;> rfl
      · intro h1 h2 h3
        have hk : (k.toNat : Int) = k := by omega
        have h4 : ((2 ^ 63 - 1) / k : Int) < (z0.length : Int) := h3
        have h5 := (Int.ediv_lt_iff_lt_mul (by omega : (0 : Int) < k)).mp h4
        rw [← hk] at h5
        have h6 : ((z0.length : Int) * (k.toNat : Int)) = ((z0.length * k.toNat : Nat) : Int) := by rw [Int.natCast_mul]
        rw [h6] at h5
        omega
      · intro h1 h2
        show decide (sizeLine < z0.length * k.toNat) = false
        exact decide_eq_false (by omega)
      · by_cases hk : k < 1
        · rw [if_pos hk]
          have e0 : k.toNat = 0 := by omega
          refine ⟨by decide, .str (repS z0 k.toNat), H, I.tok _, ⟨s.toks, ?_⟩, fin1 hw eH rfl q⟩
          rw [e0]
          rfl
        · rw [if_neg hk]
          by_cases hc : (k == 1 || z0.length == 0) = true
          · rw [if_pos hc]
            refine ⟨.str (repS z0 k.toNat), H, I, ⟨tx, ?_⟩, fin1 hw eH rfl q⟩
            have : repS z0 k.toNat = z0 := by
              simp only [Bool.or_eq_true, beq_iff_eq] at hc
              rcases hc with hc | hc
              · subst hc
                simp [repS]
              · have e0 : z0.cps = #[] := Array.eq_empty_of_size_eq_zero hc
                obtain ⟨c0⟩ := z0
                simp only at e0
                subst e0
                unfold repS
                have : (List.replicate k.toNat ([] : List Nat)).flatten = [] := by simp
                simp [this]
            rw [this]
          · rw [if_neg hc]
            refine ⟨?_, .str (repS z0 k.toNat), H, I.tok _, ⟨s.toks, ?_⟩, fin1 hw eH rfl q⟩
            · rw [sz]
              show ((List.replicate k.toNat z0.cps.toList).flatten.toArray).size ≤ sizeLine
              have : ((List.replicate k.toNat z0.cps.toList).flatten.toArray).size = k.toNat * z0.length := by
                simp [Str.length]
              rw [this, Nat.mul_comm]
              omega
            · rw [sz]
              rfl
    · cases ho
  · cases ho
theorem or_fd : OpR X (binaryOp .FloorDiv) (rO (zx X cl) oFd) := by
  rintro pins s σ H x y v u Q I rx ry ⟨w, ⟨t, d⟩, ⟨t', d'⟩, z, eH, hw, ha, hb, ho, q⟩
  unfold oFd at ho
  dsimp only at ho
  split at ho
  · unfold cif at ho
    split at ho
    · rename_i i j hl
      cases ho
      exact op_fdivW pins s σ H x y v u Q I rx ry ⟨_, _, rv_int hw ha, rv_int hw hb, wide_div (b := 64) hl.1 (by omega) (by decide) (by decide), fin1 hw eH rfl q⟩
    · cases ho
  · cases ho
theorem or_mod : OpR X (binaryOp .Mod) (rO (zx X cl) oMod) := by
  rintro pins s σ H x y v u Q I rx ry ⟨w, ⟨t, d⟩, ⟨t', d'⟩, z, eH, hw, ha, hb, ho, q⟩
  unfold oMod at ho
  dsimp only at ho
  split at ho
  · unfold cif at ho
    split at ho
    · rename_i i j hl
      cases ho
      exact op_mod pins s σ H x y v u Q I rx ry ⟨_, _, rv_int hw ha, rv_int hw hb, hl, fin1 hw eH rfl q⟩
    · cases ho
  · cases ho
theorem or_pow : OpR X (binaryOp .Pow) (rO (zx X cl) oPow) := by
  rintro pins s σ H x y v u Q I rx ry ⟨w, ⟨t, d⟩, ⟨t', d'⟩, z, eH, hw, ha, hb, ho, q⟩
  unfold oPow at ho
  dsimp only at ho
  split at ho
  · unfold cif at ho
    split at ho
    · rename_i i j hl
      cases ho
      exact op_pow pins s σ H x y v u Q I rx ry ⟨_, _, rv_int hw ha, rv_int hw hb, hl, fin1 hw eH rfl q⟩
    · cases ho
  · cases ho
theorem or_lt : OpR X (compareOp .Lt) (rO (zx X cl) oLt) := by
  rintro pins s σ H x y v u Q I rx ry ⟨w, ⟨t, d⟩, ⟨t', d'⟩, z, eH, hw, ha, hb, ho, q⟩
  unfold oLt at ho
  dsimp only at ho
  split at ho
  · cases ho
    rw [cdec_eq] at q
    exact op_lt pins s σ H x y v u Q I rx ry ⟨_, _, rv_int hw ha, rv_int hw hb, fin1 hw eH rfl q⟩
  · cases ho
theorem or_le : OpR X (compareOp .LtE) (rO (zx X cl) oLe) := by
  rintro pins s σ H x y v u Q I rx ry ⟨w, ⟨t, d⟩, ⟨t', d'⟩, z, eH, hw, ha, hb, ho, q⟩
  unfold oLe at ho
  dsimp only at ho
  split at ho
  · cases ho
    rw [cdec_eq] at q
    exact op_le pins s σ H x y v u Q I rx ry ⟨_, _, rv_int hw ha, rv_int hw hb, fin1 hw eH rfl q⟩
  · cases ho
theorem or_gt : OpR X (compareOp .Gt) (rO (zx X cl) oGt) := by
  rintro pins s σ H x y v u Q I rx ry ⟨w, ⟨t, d⟩, ⟨t', d'⟩, z, eH, hw, ha, hb, ho, q⟩
  unfold oGt at ho
  dsimp only at ho
  split at ho
  · cases ho
    rw [cdec_eq] at q
    exact op_gt pins s σ H x y v u Q I rx ry ⟨_, _, rv_int hw ha, rv_int hw hb, fin1 hw eH rfl q⟩
  · cases ho
theorem or_ge : OpR X (compareOp .GtE) (rO (zx X cl) oGe) := by
  rintro pins s σ H x y v u Q I rx ry ⟨w, ⟨t, d⟩, ⟨t', d'⟩, z, eH, hw, ha, hb, ho, q⟩
  unfold oGe at ho
  dsimp only at ho
  split at ho
  · cases ho
    rw [cdec_eq] at q
    exact op_ge pins s σ H x y v u Q I rx ry ⟨_, _, rv_int hw ha, rv_int hw hb, fin1 hw eH rfl q⟩
  · cases ho
mutual
theorem dp_of {Z : Zc} {H : Hp} : ∀ {v : V} {d : D}, Rp Z H v d → pyOk d = true → Dp Z.K H v (py d)
  | _, _, .non, _ => .non
  | _, _, .bl b, _ => .bl b
  | _, _, .int i, _ => .int i
  | _, _, .str s, _ => .str s
  | _, _, .lst h r, e => .lst (SqL.of h) (dpAll_of r (by simpa only [pyOk] using e))
  | _, _, .scr h r, e => .lst h (dpAll_of r (by simpa only [pyOk] using e))
  | _, _, .tup h r, e => .tup h (dpAll_of r (by simpa only [pyOk] using e))
  | _, _, .ins _ _ _ _, e => by simp only [pyOk] at e; cases e
  | _, _, .dic _ _ _, e => by simp only [pyOk] at e; cases e
theorem dpAll_of {Z : Zc} {H : Hp} : ∀ {vs : List V} {ds : List D}, RpL Z H vs ds → pyOkL ds = true → DpAll Z.K H vs (pyL ds)
  | _, _, .nil, _ => .nil
  | _, _, .cons h r, e => by
    simp only [pyOkL, Bool.and_eq_true] at e
    exact .cons (dp_of h e.1) (dpAll_of r e.2)
end
/-- what == asks, both ways -/
theorem eqD_cases {K : PySem.W.Frag} {w : Wd} {a b : TD} {x y : V} {k : Bool} {cl : Str → Option Addr} (hw : Wf w) (ha : RV ⟨K, cl⟩ w a x) (hb : RV ⟨K, cl⟩ w b y) (h : eqD a.2 b.2 = some k) :
    (scal x y = true ∧ decide (x = y) = k) ∨ ∃ d e, Dp K w.H x d ∧ Dp K w.H y e ∧ SeqAt.shaped d = true ∧ SeqAt.shaped e = true ∧ PyData.eqv d e = k := by
  obtain ⟨t, d⟩ := a
  obtain ⟨t', d'⟩ := b
  unfold eqD at h
  dsimp only at h
  split at h
  · cases h; rw [rv_int hw ha, rv_int hw hb]; exact .inl ⟨rfl, by simp only [V.int.injEq]⟩
  · cases h; rw [rv_str hw ha, rv_str hw hb]; exact .inl ⟨rfl, by simp only [V.str.injEq]⟩
  · cases h; rw [rv_bl hw ha, rv_bl hw hb]; exact .inl ⟨rfl, by simp only [V.bl.injEq]⟩
  · cases h; rw [rv_non hw ha, rv_non hw hb]; exact .inl ⟨rfl, by simp⟩
  · cases h; rw [rv_int hw ha, rv_non hw hb]; exact .inl ⟨rfl, by simp⟩
  · cases h; rw [rv_non hw ha, rv_int hw hb]; exact .inl ⟨rfl, by simp⟩
  · cases h; rw [rv_str hw ha, rv_non hw hb]; exact .inl ⟨rfl, by simp⟩
  · cases h; rw [rv_non hw ha, rv_str hw hb]; exact .inl ⟨rfl, by simp⟩
  · cases h; rw [rv_int hw ha, rv_str hw hb]; exact .inl ⟨rfl, by simp⟩
  · cases h; rw [rv_str hw ha, rv_int hw hb]; exact .inl ⟨rfl, by simp⟩
  · split at h
    · rename_i hc
      cases h
      simp only [Bool.and_eq_true] at hc
      exact .inr ⟨_, _, dp_of (ha.top hw) hc.1.1.1, dp_of (hb.top hw) hc.1.1.2, hc.1.2, hc.2, rfl⟩
    · cases h
theorem or_eq (hX : XS X) : OpR X (compareOp .Eq) (rO (zx X cl) oEq) := by
  rintro pins s σ H x y v u Q I rx ry ⟨w, a, b, z, eH, hw, ha, hb, ho, q⟩
  obtain ⟨k, hk, rfl⟩ := Option.map_eq_some_iff.mp ho
  have hu := hX.hu
  rcases eqD_cases hw ha hb hk with ⟨h1, h2⟩ | ⟨d, e, h1, h2, h3, h4, h5⟩
  · exact op_eq pins s σ H x y v u Q I rx ry ⟨h1, by rw [h2]; exact fin1 hw eH (d := .bl k) rfl q⟩
  · subst eH
    exact op_eqD (by omega) pins s σ _ x y v u Q I rx ry ⟨d, e, h1, h2, h3, h4, by rw [h5]; exact fin1 hw rfl (d := .bl k) rfl q⟩
theorem or_ne (hX : XS X) : OpR X (compareOp .NotEq) (rO (zx X cl) oNe) := by
  rintro pins s σ H x y v u Q I rx ry ⟨w, a, b, z, eH, hw, ha, hb, ho, q⟩
  obtain ⟨k, hk, rfl⟩ := Option.map_eq_some_iff.mp ho
  have hu := hX.hu
  rcases eqD_cases hw ha hb hk with ⟨h1, h2⟩ | ⟨d, e, h1, h2, h3, h4, h5⟩
  · exact op_ne pins s σ H x y v u Q I rx ry ⟨h1, by rw [h2]; exact fin1 hw eH (d := .bl (!k)) rfl q⟩
  · subst eH
    exact op_neD (by omega) pins s σ _ x y v u Q I rx ry ⟨d, e, h1, h2, h3, h4, by rw [h5]; exact fin1 hw rfl (d := .bl (!k)) rfl q⟩
theorem flat_vOf {d : D} (h : isS d = true) : flatV (vOf d) = true := by cases d <;> first | rfl | exact absurd h (by simp [isS])
theorem inV_any {Z : Zc} {H : Hp} {vs : List V} {ds : List D} {a : D} (r : RpL Z H vs ds) (h : ds.all isS = true) : inV (vOf a) vs = ds.any fun y => eqS y a := by
  rw [rpL_vals r h]
  unfold inV eqS
  rw [List.any_map] <;> rfl
theorem flat_all {Z : Zc} {H : Hp} {vs : List V} {ds : List D} (r : RpL Z H vs ds) (h : ds.all isS = true) : vs.all flatV = true := by
  rw [rpL_vals r h, List.all_map, List.all_eq_true]
  intro d hd
  exact flat_vOf (List.all_eq_true.mp h d hd)
theorem inD_seq {K : PySem.W.Frag} {w : Wd} {a b : TD} {x y : V} {k : Bool} {cl : Str → Option Addr} (hw : Wf w) (ha : RV ⟨K, cl⟩ w a x) (hb : RV ⟨K, cl⟩ w b y) (h : inD a.2 b.2 = some k) :
    (∃ p xs, y = .ref p ∧ (SqL K w.H p xs ∨ SqT K w.H p xs) ∧ flatV x = true ∧ xs.all flatV = true ∧ inV x xs = k) ∨ ∃ (c : Nat) (z : Str), x = .str ⟨#[c]⟩ ∧ y = .str z ∧ decide (c ∈ z.cps.toList) = k := by
  obtain ⟨t, d⟩ := a
  obtain ⟨t', d'⟩ := b
  unfold inD at h
  dsimp only at h
  split at h
  · split at h
    · rename_i xs hc
      cases h
      simp only [Bool.and_eq_true] at hc
      obtain ⟨p, vs, rfl, h1, h2⟩ := hb.lst hw
      rw [rv_s hw hc.1 ha]
      exact .inl ⟨p, vs, rfl, .inl (SqL.of h1), flat_vOf hc.1, flat_all h2 hc.2, inV_any h2 hc.2⟩
    · cases h
  · split at h
    · rename_i xs hc
      cases h
      simp only [Bool.and_eq_true] at hc
      obtain ⟨p, vs, rfl, h1, h2⟩ := hb.scr hw
      rw [rv_s hw hc.1 ha]
      exact .inl ⟨p, vs, rfl, .inl h1, flat_vOf hc.1, flat_all h2 hc.2, inV_any h2 hc.2⟩
    · cases h
  · split at h
    · rename_i xs hc
      cases h
      simp only [Bool.and_eq_true] at hc
      obtain ⟨p, vs, rfl, h1, h2⟩ := hb.tup hw
      rw [rv_s hw hc.1 ha]
      exact .inl ⟨p, vs, rfl, .inr h1, flat_vOf hc.1, flat_all h2 hc.2, inV_any h2 hc.2⟩
    · cases h
  · split at h
    · split at h
      · rename_i z _ s0 hl
        cases h
        rw [rv_str hw ha, rv_str hw hb]
        refine .inr ⟨s0.cps.getD 0 0, z, ?_, rfl, rfl⟩
        obtain ⟨arr⟩ := s0
        have hs : arr.size = 1 := hl
        obtain ⟨l⟩ := arr
        match l, hs with
        | [c], _ => rfl
      · cases h
    · cases h
  · cases h
theorem or_in : OpR X (compareOp .In) (rO (zx X cl) oIn) := by
  rintro pins s σ H x y v u Q I rx ry ⟨w, a, b, z, eH, hw, ha, hb, ho, q⟩
  obtain ⟨k, hk, rfl⟩ := Option.map_eq_some_iff.mp ho
  subst eH
  rcases inD_seq hw ha hb hk with ⟨p, xs, e1, h2, h3, h4, h5⟩ | ⟨c, z, e1, e2, h5⟩
  · exact op_in_seq pins s σ _ x y v u Q I rx ry ⟨p, xs, e1, h2, h3, h4, by rw [h5]; exact fin1 hw rfl (d := .bl k) rfl q⟩
  · exact op_in_sign pins s σ _ x y v u Q I rx ry ⟨c, z, e1, e2, by rw [h5]; exact fin1 hw rfl (d := .bl k) rfl q⟩
theorem or_ni : OpR X (compareOp .NotIn) (rO (zx X cl) oNi) := by
  rintro pins s σ H x y v u Q I rx ry ⟨w, a, b, z, eH, hw, ha, hb, ho, q⟩
  obtain ⟨k, hk, rfl⟩ := Option.map_eq_some_iff.mp ho
  subst eH
  rcases inD_seq hw ha hb hk with ⟨p, xs, e1, h2, h3, h4, h5⟩ | ⟨c, z, e1, e2, h5⟩
  · exact op_notIn_seq pins s σ _ x y v u Q I rx ry ⟨p, xs, e1, h2, h3, h4, by rw [h5]; exact fin1 hw rfl (d := .bl (!k)) rfl q⟩
  · exact op_notIn_sign pins s σ _ x y v u Q I rx ry ⟨c, z, e1, e2, by rw [h5]; exact fin1 hw rfl (d := .bl (!k)) rfl q⟩
theorem isD_cases {w : Wd} {a b : TD} {x y : V} {k : Bool} {Z : Zc} (hw : Wf w) (ha : RV Z w a x) (hb : RV Z w b y) (h : isD a.2 b.2 = some k) :
    (y = .non ∧ decide (x = .non) = k) ∨ ∃ p q : Bool, x = .bl p ∧ y = .bl q ∧ decide (p = q) = k := by
  obtain ⟨t, d⟩ := a
  obtain ⟨t', d'⟩ := b
  unfold isD at h
  dsimp only at h
  split at h
  · left
    refine ⟨rv_non hw hb, ?_⟩
    split at h
    · cases h; rw [rv_non hw ha]; rfl
    · rename_i hd
      cases h
      refine decide_eq_false fun e => ?_
      subst e
      have := ha.top hw
      cases this
      exact hd rfl
  · split at h
    · cases h; exact .inr ⟨_, _, rv_bl hw ha, rv_bl hw hb, rfl⟩
    · cases h
  · cases h
theorem or_is : OpR X (compareOp .Is) (rO (zx X cl) oIs) := by
  rintro pins s σ H x y v u Q I rx ry ⟨w, a, b, z, eH, hw, ha, hb, ho, q⟩
  obtain ⟨k, hk, rfl⟩ := Option.map_eq_some_iff.mp ho
  rcases isD_cases hw ha hb hk with ⟨e, h⟩ | ⟨p, r, e1, e2, h⟩
  · exact op_isN pins s σ H x y v u Q I rx ry ⟨e, by rw [h]; exact fin1 hw eH (d := .bl k) rfl q⟩
  · exact op_isBl pins s σ H x y v u Q I rx ry ⟨p, r, e1, e2, by rw [h]; exact fin1 hw eH (d := .bl k) rfl q⟩
theorem or_isN : OpR X (compareOp .IsNot) (rO (zx X cl) oIsN) := by
  rintro pins s σ H x y v u Q I rx ry ⟨w, a, b, z, eH, hw, ha, hb, ho, q⟩
  obtain ⟨k, hk, rfl⟩ := Option.map_eq_some_iff.mp ho
  rcases isD_cases hw ha hb hk with ⟨e, h⟩ | ⟨p, r, e1, e2, h⟩
  · exact op_notN pins s σ H x y v u Q I rx ry ⟨e, by rw [h]; exact fin1 hw eH (d := .bl (!k)) rfl q⟩
  · exact op_notBl pins s σ H x y v u Q I rx ry ⟨p, r, e1, e2, by rw [h]; exact fin1 hw eH (d := .bl (!k)) rfl q⟩
end
end Vf
namespace Vf
open PySem L2
abbrev FL := Ev → Option (Tg × List D)
/-- a new list, not yet handed to anybody -/
def tL (Z : Zc) (f : FL) : TE := fun σ H Q => ∃ env w t ds, w.H = H ∧ Wok Z env σ w ∧ f env = some (t, ds) ∧ t ≠ .O ∧
  ∀ p vs w', Gr w w' → w.H p = none → w'.H p = some (.lst vs) → w'.B p = none → RpL Z (w'.rd t) vs ds → Q (.ref p) w'.H
@[simp] def sL (f : FL) : FE := fun env => (f env).bind fun r => if r.1 = .O then none else some (r.1, .lst r.2)
@[simp] def sLd (g : FA) : FL := fun env => (g env).bind fun rs => if rs.length ≤ lim then some (tagL rs, rs.map (·.2)) else none
@[simp] def sTp (g : FA) : FE := fun env => (g env).bind fun rs => if rs.length ≤ lim then some (tagL rs, .tup (rs.map (·.2))) else none
@[simp] def sLo (o : TD → TD → Option (Tg × List D)) (f g : FE) : FL := fun env => (f env).bind fun x => (g env).bind fun y => o x y
def lstOf (a : TD) : Option (Tg × List D) := match a.2 with
  | .lst xs => some (el a.1, xs)
  | .scr xs => some (el a.1, xs)
  | .tup xs => some (el a.1, xs)
  | _ => none
@[simp] def sLb (o : List TD → Option (Tg × List D)) (g : FA) : FL := fun env => (g env).bind o
def listB (rs : List TD) : Option (Tg × List D) := match rs with | [a] => lstOf a | _ => none
def cutD (xs : List D) (lo hi : Option Int) : List D := (xs.drop (HT.sIx xs.length 0 lo)).take (HT.sIx xs.length xs.length hi - HT.sIx xs.length 0 lo)
abbrev FO := Ev → Option (Option Int)
@[simp] def sNoP : FO := fun _ => some none
def sPt (f : FE) : FO := fun env => (f env).bind fun r => match r.2 with | .int i => some (some i) | _ => none
def sSlL (f : FE) (l h : FO) : FL := fun env => (f env).bind fun x => (l env).bind fun lo => (h env).bind fun hi => match x.2 with
  | .lst xs => some (el x.1, cutD xs lo hi)
  | .scr xs => some (el x.1, cutD xs lo hi)
  | _ => none
def slD (x : TD) (lo hi : Option Int) : Option TD := match x.2 with
  | .lst xs => some (el x.1, .lst (cutD xs lo hi))
  | .scr xs => some (el x.1, .lst (cutD xs lo hi))
  | .str z => if z.length ≤ lim then some (.N, .str (cutS z lo hi)) else none
  | .tup xs => some (el x.1, .tup (cutD xs lo hi))
  | _ => none
@[simp] def sSl (f : FE) (l h : FO) : FE := fun env => (f env).bind fun x => (l env).bind fun lo => (h env).bind fun hi => slD x lo hi
section
variable {Z : Zc} {w : Wd} {H : Hp}
/-- a list that is laid now, as a new list -/
theorem laid_new {Q : VK} {t : Tg} {ds : List D} {vs : List V} (hw : Wf w) (q : ∀ p vs w', Gr w w' → w.H p = none → w'.H p = some (.lst vs) → w'.B p = none → RpL Z (w'.rd t) vs ds → Q (.ref p) w'.H) (r : RpL Z (w.rd t) vs ds)
    (p : Addr) (hp : w.H p = none) : Q (.ref p) (upd w.H p (.lst vs)) := by
  have g := Gr.put hw (t := .T) (o := .lst vs) hp
  exact q p vs (w.put .T p (.lst vs)) g hp upd_same (hw.bh.free hp) (RpL.mono (rd_gr g t) r)
theorem cutD_all {xs : List D} {lo hi : Option Int} (h : HT.sIx xs.length 0 lo = 0 ∧ HT.sIx xs.length xs.length hi = xs.length) : cutD xs lo hi = xs := by
  unfold cutD
  rw [h.1, h.2]
  simp
theorem cutV_rp {vs : List V} {ds : List D} (r : RpL Z H vs ds) (lo hi : Option Int) : RpL Z H (cutV vs lo hi) (cutD ds lo hi) := by
  unfold cutV cutD
  rw [r.length]
  exact (r.drop _).take _
end
section
variable {X : Cx} {cl : Str → Option Addr} {a b c : Expr} {es : List Expr} {f g h : FE} {fa : FA} {fl : FL} {l1 l2 : FO} {lo hi : Option Expr} {pos : Pos}
theorem je_l (ha : PE X a (tL (zx X cl) fl)) : PE X a (tE (zx X cl) (sL fl)) := by
  refine pe_w ha fun σ H Q ⟨env, w, r, e, k, hr, q⟩ => ?_
  obtain ⟨⟨t, ds⟩, h1, h2⟩ := Option.bind_eq_some_iff.mp hr
  dsimp only at h2
  split at h2
  · cases h2
  · rename_i ht
    cases h2
    refine ⟨env, w, t, ds, e, k, h1, ht, fun p vs w' g1 hp hH hB r => ?_⟩
    obtain ⟨w2, g2, e2, r2⟩ := adopt g1 ht hp hH hB r
    rw [← e2]
    exact q _ w2 g2 r2
theorem jl_d (h : PA X es (tA (zx X cl) fa)) : PE X (.List es pos) (tL (zx X cl) (sLd fa)) := by
  refine pe_w (pe_lst h) fun σ H Q ⟨env, w, t, ds, e, k, hr, ht, q⟩ => ?_
  subst e
  obtain ⟨rs, h1, h2⟩ := Option.bind_eq_some_iff.mp hr
  split at h2
  · rename_i hl
    cases h2
    refine ⟨env, w, rs, rfl, k, h1, fun vs w1 g1 r1 => ⟨lim_le (by rw [r1.length]; exact hl), fun p hp => ?_⟩⟩
    exact laid_new g1.wf (fun p vs w' g2 hp' => q p vs w' (g1.trans g2) (g1.h.free hp')) (rvs_items g1.wf r1) p hp
  · cases h2
theorem je_tup {x1 : Nat} (h : PA X es (tA (zx X cl) fa)) : PE X (.Tuple es x1 pos) (tE (zx X cl) (sTp fa)) := by
  refine pe_w (pe_tup h) fun σ H Q ⟨env, w, r, e, k, hr, q⟩ => ?_
  subst e
  obtain ⟨rs, h1, h2⟩ := Option.bind_eq_some_iff.mp hr
  split at h2
  · rename_i hl
    cases h2
    refine ⟨env, w, rs, rfl, k, h1, fun vs w1 g1 r1 => ⟨lim_le (by rw [r1.length]; exact hl), fun p hp => ?_⟩⟩
    have := q _ _ (g1.trans (Gr.put g1.wf hp)) (new_tup g1.wf (tagL_ne rs) hp (rvs_items g1.wf r1))
    rw [put_H] at this
    exact this
  · cases h2
def rOL (Z : Zc) (o : TD → TD → Option (Tg × List D)) : R2 := fun x y H Q => ∃ w rx ry t ds, w.H = H ∧ Wf w ∧ RV Z w rx x ∧ RV Z w ry y ∧ o rx ry = some (t, ds) ∧ t ≠ .O ∧
  ∀ p vs w', Gr w w' → w.H p = none → w'.H p = some (.lst vs) → w'.B p = none → RpL Z (w'.rd t) vs ds → Q (.ref p) w'.H
theorem jl_op {op : Operator} {o : TD → TD → Option (Tg × List D)} (ho : OpR X (binaryOp op) (rOL (zx X cl) o)) (ha : PE X a (tE (zx X cl) f)) (hb : PE X b (tE (zx X cl) g)) : PE X (.BinOp a op b pos) (tL (zx X cl) (sLo o f g)) := by
  refine pe_w (pe_op ho ha hb) fun σ H Q ⟨env, w, t, ds, e, k, hr, ht, q⟩ => ?_
  subst e
  obtain ⟨x, hx, hr⟩ := Option.bind_eq_some_iff.mp hr
  obtain ⟨y, hy, hr⟩ := Option.bind_eq_some_iff.mp hr
  refine ⟨env, w, x, rfl, k, hx, fun v w1 g1 r1 => ⟨env, w1, y, rfl, k.mono g1, hy, fun u w2 g2 r2 => ?_⟩⟩
  exact ⟨w2, x, y, t, ds, rfl, g2.wf, r1.mono g2, r2, hr, ht, fun p vs w3 g3 hp => q p vs w3 ((g1.trans g2).trans g3) (g1.h.free (g2.h.free hp))⟩
theorem orl_cat : OpR X (binaryOp .Add) (rOL (zx X cl) catL) := by
  rintro pins s σ H x y v u Q I rx ry ⟨w, ⟨t, d⟩, ⟨t', d'⟩, tt, ds, eH, hw, ha, hb, ho, ht, q⟩
  unfold catL at ho
  dsimp only at ho
  split at ho
  · split at ho
    · rename_i xs ys hl
      cases ho
      obtain ⟨p, vs, rfl, h1, h2⟩ := ha.lst hw
      obtain ⟨p', vs', rfl, h1', h2'⟩ := hb.lst hw
      subst eH
      exact op_cat pins s σ w.H _ _ v u Q I rx ry ⟨_, _, _, _, rfl, rfl, h1, h1', lim_le (by rw [h2.length, h2'.length]; exact hl), fun np hnp =>
        laid_new hw q ((RpL.mono (mt2_l hw t (el t')) h2).append (RpL.mono (mt2_r hw (el t) t') h2')) np hnp⟩
    · cases ho
  · cases ho
theorem orl_rep : OpR X (binaryOp .Mult) (rOL (zx X cl) repL) := by
  rintro pins s σ H x y v u Q I rx ry ⟨w, ⟨t, d⟩, ⟨t', d'⟩, tt, ds, eH, hw, ha, hb, ho, ht, q⟩
  unfold repL at ho
  dsimp only at ho
  split at ho
  · unfold cif at ho
    split at ho
    · rename_i xs k hl
      cases ho
      obtain ⟨p, vs, rfl, h1, h2⟩ := ha.lst hw
      have e2 := rv_int hw hb
      subst eH e2
      have hk : k.natAbs ≤ 1000000 := hl.1
      exact op_rep pins s σ w.H _ _ v u Q I rx ry ⟨_, _, _, rfl, rfl, h1, by omega, by omega, lim_le (by rw [h2.length]; exact hl.2), fun np hnp => laid_new hw q (h2.rep _) np hnp⟩
    · cases ho
  · cases ho
/-- list(x) -/
def rCL (Z : Zc) (o : List TD → Option (Tg × List D)) : List V → Hp → VK → Prop := fun xs H Q => ∃ w rs t ds, w.H = H ∧ Wf w ∧ RVs Z w rs xs ∧ o rs = some (t, ds) ∧ t ≠ .O ∧
  ∀ p vs w', Gr w w' → w.H p = none → w'.H p = some (.lst vs) → w'.B p = none → RpL Z (w'.rd t) vs ds → Q (.ref p) w'.H
theorem lst_of {Z : Zc} {w : Wd} {a : TD} {v : V} {t : Tg} {ds : List D} (hw : Wf w) (h : RV Z w a v) (e : lstOf a = some (t, ds)) : ∃ p vs, v = .ref p ∧ (SqL Z.K w.H p vs ∨ SqT Z.K w.H p vs) ∧ RpL Z (w.rd t) vs ds := by
  obtain ⟨u, d⟩ := a
  unfold lstOf at e
  dsimp only at e
  split at e
  · cases e
    obtain ⟨p, vs, rfl, h1, h2⟩ := h.lst hw
    exact ⟨p, vs, rfl, .inl (SqL.of h1), h2⟩
  · cases e
    obtain ⟨p, vs, rfl, h1, h2⟩ := h.scr hw
    exact ⟨p, vs, rfl, .inl h1, h2⟩
  · cases e
    obtain ⟨p, vs, rfl, h1, h2⟩ := h.tup hw
    exact ⟨p, vs, rfl, .inr h1, h2⟩
  · cases e
theorem rvs1 {Z : Zc} {w : Wd} {a : TD} {xs : List V} (h : RVs Z w [a] xs) : ∃ v, xs = [v] ∧ RV Z w a v := by
  match xs, h with
  | [v], h => exact ⟨v, rfl, h.1⟩
theorem rvs2 {Z : Zc} {w : Wd} {a b : TD} {xs : List V} (h : RVs Z w [a, b] xs) : ∃ v u, xs = [v, u] ∧ RV Z w a v ∧ RV Z w b u := by
  match xs, h with
  | [v, u], h => exact ⟨v, u, rfl, h.1, h.2.1⟩
theorem crl_list : CallR X (.type "list") (rCL (zx X cl) listB) := by
  rintro pins s σ H xs us Q I r ⟨w, rs, t, ds, eH, hw, hr, ho, ht, q⟩
  unfold listB at ho
  split at ho
  · obtain ⟨v, rfl, hv⟩ := rvs1 hr
    obtain ⟨p, vs, rfl, h1, h2⟩ := lst_of hw hv ho
    subst eH
    exact call_list_of pins s σ w.H _ us Q I r ⟨p, vs, rfl, h1, fun np hnp => laid_new hw q h2 np hnp⟩
  · cases ho
theorem jl_ty {T : String} {x : Str} {p : Pos} {o : List TD → Option (Tg × List D)} (hc : CallR X (.type T) (rCL (zx X cl) o)) (hm : X.mg x = none) (hv : bootBuiltins x = some (.type T)) (ha : PA X (a :: es) (tA (zx X cl) fa)) (hg : Gl X x := by rfl)
    (hn : x ≠ "__name__" := by decide) (hdb : (x == ("__debug__" : Str)) = false := by decide) (he : starEach (a :: es) X.env = (false, eval a X.env) :: starEach es X.env := by rfl) (hpl : (backTo pos (starEach es X.env)).any (·.1) = false := by rfl) :
    PE X (.Call (.Name x p) (a :: es) [] pos) (tL (zx X cl) (sLb o fa)) := by
  refine pe_w (pe_callTy hc hg hm hv ha hn hdb he hpl) fun σ H Q ⟨env, w, t, ds, e, k, hr, ht, q⟩ => ?_
  subst e
  obtain ⟨rs, h1, h2⟩ := Option.bind_eq_some_iff.mp hr
  exact ⟨env, w, rs, rfl, k, h1, fun vs w1 g1 r1 => ⟨w1, rs, t, ds, rfl, g1.wf, r1, h2, ht, fun p vs w' g2 hp' => q p vs w' (g1.trans g2) (g1.h.free hp')⟩⟩
/-! subscripts -/
theorem atI_rp {Z : Zc} {H : Hp} {vs : List V} {ds : List D} {i : Int} {d : D} (r : RpL Z H vs ds) (h : atI ds i = some d) : ∃ v, atI vs i = some v ∧ Rp Z H v d := by
  unfold atI at h ⊢
  rw [r.length]
  obtain ⟨j, h1, h2⟩ := Option.bind_eq_some_iff.mp h
  obtain ⟨v, h3, h4⟩ := r.get h2
  exact ⟨v, by rw [h1]; exact h3, h4⟩
theorem ix_d : IxR X (rO (zx X cl) oIx) := by
  rintro value slice pins s σ H x y v u Q I rx ry ⟨w, ⟨t, d⟩, ⟨t', d'⟩, z, eH, hw, ha, hb, ho, q⟩ hs
  unfold oIx at ho
  dsimp only at ho
  split at ho
  · rename_i i
    have ei := rv_int hw hb
    unfold ixD at ho
    dsimp only at ho
    subst eH
    split at ho
    · obtain ⟨d0, h1, rfl⟩ := Option.map_eq_some_iff.mp ho
      obtain ⟨p, vs, rfl, h3, h4⟩ := ha.lst hw
      obtain ⟨v0, h5, h6⟩ := atI_rp h4 h1
      exact ix_list value slice pins s σ _ _ _ v u Q I rx ry ⟨p, vs, i, v0, rfl, ei, SqL.of h3, h5, q v0 w (Gr.refl hw) (RV.nm hw (RV.of (el_ne t) h6))⟩ hs
    · obtain ⟨d0, h1, rfl⟩ := Option.map_eq_some_iff.mp ho
      obtain ⟨p, vs, rfl, h3, h4⟩ := ha.scr hw
      obtain ⟨v0, h5, h6⟩ := atI_rp h4 h1
      exact ix_list value slice pins s σ _ _ _ v u Q I rx ry ⟨p, vs, i, v0, rfl, ei, h3, h5, q v0 w (Gr.refl hw) (RV.nm hw (RV.of (el_ne t) h6))⟩ hs
    · obtain ⟨d0, h1, rfl⟩ := Option.map_eq_some_iff.mp ho
      obtain ⟨p, vs, rfl, h3, h4⟩ := ha.tup hw
      obtain ⟨v0, h5, h6⟩ := atI_rp h4 h1
      exact ix_tup value slice pins s σ _ _ _ v u Q I rx ry ⟨p, vs, i, v0, rfl, ei, h3, h5, q v0 w (Gr.refl hw) (RV.nm hw (RV.of (el_ne t) h6))⟩ hs
    · split at ho
      · rename_i hl
        obtain ⟨c, h1, rfl⟩ := Option.map_eq_some_iff.mp ho
        exact ix_str value slice pins s σ _ _ _ v u Q I rx ry ⟨_, i, c, rv_str hw ha, ei, lim_le hl, h1, fin1 hw rfl (d := .str ⟨#[c]⟩) rfl q⟩ hs
      · cases ho
    · cases ho
  · cases ho
theorem je_ix (ha : PE X a (tE (zx X cl) f)) (hb : PE X b (tE (zx X cl) g)) (hs : PlainIx b := by exact fun _ _ => rfl) : PE X (.Subscript a b pos) (tE (zx X cl) (sOp oIx f g)) :=
  pe_w (pe_ix ix_d ha hb hs) fun _ _ _ hh => sOp_rd hh
/-! slices -/
def tO (Z : Zc) (f : FO) : TO := fun σ H Q => ∃ env w r, w.H = H ∧ Wok Z env σ w ∧ f env = some r ∧ ∀ w', Gr w w' → Q r w'.H
theorem jo_none : PO X none (tO (zx X cl) sNoP) := by
  refine ⟨fun pins s σ H Q I ⟨env, w, r, e, k, hr, q⟩ => po_none.run pins s σ H Q I ?_⟩
  subst e
  cases hr
  exact q w (Gr.refl k.wf)
theorem jo_some (ha : PE X a (tE (zx X cl) f)) : PO X (some a) (tO (zx X cl) (sPt f)) := by
  refine ⟨fun pins s σ H Q I ⟨env, w, r, e, k, hr, q⟩ => (po_some ha).run pins s σ H Q I ?_⟩
  subst e
  obtain ⟨⟨t, d⟩, h1, h2⟩ := Option.bind_eq_some_iff.mp hr
  dsimp only at h2
  split at h2
  · cases h2
    exact ⟨env, w, _, rfl, k, h1, fun v w1 g1 r1 => ⟨_, rv_int g1.wf r1, q w1 g1⟩⟩
  · cases h2
def rSD (Z : Zc) : V → Option Int → Option Int → Hp → VK → Prop := fun x lo hi H Q => ∃ w rx z, w.H = H ∧ Wf w ∧ RV Z w rx x ∧ slD rx lo hi = some z ∧ ∀ v w', Gr w w' → RV Z w' z v → Q v w'.H
theorem sl_d : SlR X (rSD (zx X cl)) := by
  rintro pins s σ H x v vl vu lo hi sl Q I rx hs pl pu ⟨w, ⟨t, d⟩, z, eH, hw, ha, ho, q⟩
  unfold slD at ho
  dsimp only at ho
  subst eH
  split at ho
  · cases ho
    obtain ⟨p, vs, rfl, h3, h4⟩ := ha.lst hw
    refine sl_list pins s σ _ _ v vl vu lo hi sl Q I rx hs pl pu ⟨p, vs, rfl, SqL.of h3, fun np hnp => ?_⟩
    have := q _ _ (Gr.put hw (t := el t) hnp) (new_lst hw (el_ne t) hnp (cutV_rp h4 lo hi))
    rw [put_H] at this
    exact this
  · cases ho
    obtain ⟨p, vs, rfl, h3, h4⟩ := ha.scr hw
    refine sl_list pins s σ _ _ v vl vu lo hi sl Q I rx hs pl pu ⟨p, vs, rfl, h3, fun np hnp => ?_⟩
    have := q _ _ (Gr.put hw (t := el t) hnp) (new_lst hw (el_ne t) hnp (cutV_rp h4 lo hi))
    rw [put_H] at this
    exact this
  · split at ho
    · rename_i hl
      cases ho
      exact sl_str pins s σ _ _ v vl vu lo hi sl Q I rx hs pl pu ⟨_, rv_str hw ha, lim_le hl, fin1 hw rfl (d := .str (cutS _ lo hi)) rfl q⟩
    · cases ho
  · cases ho
    have ha' := ha
    obtain ⟨p, vs, rfl, h3, h4⟩ := ha.tup hw
    refine sl_tupA pins s σ _ _ v vl vu lo hi sl Q I rx hs pl pu ⟨p, vs, rfl, h3, fun hc => ?_, fun hc np hnp => ?_⟩
    · have e : cutD _ lo hi = _ := cutD_all (by rw [← h4.length]; exact hc)
      rw [e] at q
      refine q _ w (Gr.refl hw) (RV.of (el_ne t) ?_)
      cases t <;> first | exact ha' | (obtain ⟨_, _, _, _, z, _⟩ := ha'; cases z)
    · have := q _ _ (Gr.put hw (t := el t) hnp) (new_tup hw (el_ne t) hnp (cutV_rp h4 lo hi))
      rw [put_H] at this
      exact this
  · cases ho
theorem je_sl {p2 : Pos} (he : PE X a (tE (zx X cl) f)) (hl : PO X lo (tO (zx X cl) l1)) (hu : PO X hi (tO (zx X cl) l2)) : PE X (.Subscript a (.Slice lo hi none p2) pos) (tE (zx X cl) (sSl f l1 l2)) := by
  refine pe_w (pe_slice (sl_d (cl := cl)) he hl hu) fun σ H Q ⟨env, w, r, e, k, hr, q⟩ => ?_
  subst e
  obtain ⟨x, hx, hr⟩ := Option.bind_eq_some_iff.mp hr
  obtain ⟨y, hy, hr⟩ := Option.bind_eq_some_iff.mp hr
  obtain ⟨z, hz, hr⟩ := Option.bind_eq_some_iff.mp hr
  refine ⟨env, w, x, rfl, k, hx, fun v w1 g1 r1 => ⟨env, w1, y, rfl, k.mono g1, hy, fun w2 g2 => ⟨env, w2, z, rfl, (k.mono g1).mono g2, hz, fun w3 g3 => ?_⟩⟩⟩
  exact ⟨w3, x, r, rfl, g3.wf, (r1.mono g2).mono g3, hr, fun v' w4 g4 r4 => q v' w4 (((g1.trans g2).trans g3).trans g4) r4⟩
/-! built-ins -/
def lenB (rs : List TD) : Option TD := match rs with
  | [a] => match a.2 with
    | .str z => if z.length ≤ lim then some (.N, .int z.length) else none
    | .lst xs => some (.N, .int xs.length)
    | .scr xs => some (.N, .int xs.length)
    | .tup xs => some (.N, .int xs.length)
    | _ => none
  | _ => none
theorem cr_len : CallR X (.builtin "len") (rC (zx X cl) lenB) := by
  rintro pins s σ H xs us Q I r ⟨w, rs, z, eH, hw, hr, ho, q⟩
  unfold lenB at ho
  split at ho
  · rename_i a
    obtain ⟨t, d⟩ := a
    obtain ⟨v, rfl, hv⟩ := rvs1 hr
    dsimp only at ho
    subst eH
    split at ho
    · split at ho
      · rename_i hl
        cases ho
        refine call_len pins s σ _ _ us Q I r ⟨v, _, rfl, ?_, fin1 hw rfl (d := .int _) rfl q⟩
        rw [rv_str hw hv]
        exact ⟨lim_le hl, rfl⟩
      · cases ho
    · cases ho
      obtain ⟨p, vs, rfl, h3, h4⟩ := hv.lst hw
      refine call_len pins s σ _ _ us Q I r ⟨_, _, rfl, .inl ⟨vs, SqL.of h3, rfl⟩, ?_⟩
      rw [h4.length]
      exact fin1 hw rfl (d := .int _) rfl q
    · cases ho
      obtain ⟨p, vs, rfl, h3, h4⟩ := hv.scr hw
      refine call_len pins s σ _ _ us Q I r ⟨_, _, rfl, .inl ⟨vs, h3, rfl⟩, ?_⟩
      rw [h4.length]
      exact fin1 hw rfl (d := .int _) rfl q
    · cases ho
      obtain ⟨p, vs, rfl, h3, h4⟩ := hv.tup hw
      refine call_len pins s σ _ _ us Q I r ⟨_, _, rfl, .inr ⟨vs, h3, rfl⟩, ?_⟩
      rw [h4.length]
      exact fin1 hw rfl (d := .int _) rfl q
    · cases ho
  · cases ho
def intB (rs : List TD) : Option TD := match rs with
  | [a] => match a.2 with
    | .int i => some (.N, .int i)
    | .bl k => some (.N, .int (if k then 1 else 0))
    | _ => none
  | _ => none
theorem cr_int : CallR X (.type "int") (rC (zx X cl) intB) := by
  rintro pins s σ H xs us Q I r ⟨w, rs, z, eH, hw, hr, ho, q⟩
  unfold intB at ho
  split at ho
  · rename_i a
    obtain ⟨t, d⟩ := a
    obtain ⟨v, rfl, hv⟩ := rvs1 hr
    dsimp only at ho
    subst eH
    split at ho
    · cases ho
      exact call_int1 pins s σ _ _ us Q I r (.inl ⟨_, by rw [rv_int hw hv], fin1 hw rfl (d := .int _) rfl q⟩)
    · cases ho
      exact call_int1 pins s σ _ _ us Q I r (.inr ⟨_, by rw [rv_bl hw hv], fin1 hw rfl (d := .int _) rfl q⟩)
    · cases ho
  · cases ho
def absB (rs : List TD) : Option TD := match rs with
  | [a] => match a.2 with | .int i => some (.N, .int (if i < 0 then -i else i)) | _ => none
  | _ => none
theorem cr_abs : CallR X (.builtin "abs") (rC (zx X cl) absB) := by
  rintro pins s σ H xs us Q I r ⟨w, rs, z, eH, hw, hr, ho, q⟩
  unfold absB at ho
  split at ho
  · rename_i a
    obtain ⟨t, d⟩ := a
    obtain ⟨v, rfl, hv⟩ := rvs1 hr
    dsimp only at ho
    subst eH
    split at ho
    · cases ho
      exact call_abs pins s σ _ _ us Q I r ⟨_, by rw [rv_int hw hv], fin1 hw rfl (d := .int _) rfl q⟩
    · cases ho
  · cases ho
def maxB (rs : List TD) : Option TD := match rs with
  | [a, b] => match a.2, b.2 with | .int i, .int j => some (.N, .int (if j > i then j else i)) | _, _ => none
  | _ => none
theorem cr_max (hX : XS X) : CallR X (.builtin "max") (rC (zx X cl) maxB) := by
  rintro pins s σ H xs us Q I r ⟨w, rs, z, eH, hw, hr, ho, q⟩
  unfold maxB at ho
  split at ho
  · rename_i a b
    obtain ⟨t, d⟩ := a
    obtain ⟨t', d'⟩ := b
    obtain ⟨v, v', rfl, hv, hv'⟩ := rvs2 hr
    dsimp only at ho
    subst eH
    split at ho
    · cases ho
      exact call_max2 hX.calm pins s σ _ _ us Q I r ⟨_, _, by rw [rv_int hw hv, rv_int hw hv'], fin1 hw rfl (d := .int _) rfl q⟩
    · cases ho
  · cases ho
def minB (rs : List TD) : Option TD := match rs with
  | [a, b] => match a.2, b.2 with | .int i, .int j => some (.N, .int (if j < i then j else i)) | _, _ => none
  | _ => none
theorem cr_min (hX : XS X) : CallR X (.builtin "min") (rC (zx X cl) minB) := by
  rintro pins s σ H xs us Q I r ⟨w, rs, z, eH, hw, hr, ho, q⟩
  unfold minB at ho
  split at ho
  · rename_i a b
    obtain ⟨t, d⟩ := a
    obtain ⟨t', d'⟩ := b
    obtain ⟨v, v', rfl, hv, hv'⟩ := rvs2 hr
    dsimp only at ho
    subst eH
    split at ho
    · cases ho
      exact call_min2 hX.calm pins s σ _ _ us Q I r ⟨_, _, by rw [rv_int hw hv, rv_int hw hv'], fin1 hw rfl (d := .int _) rfl q⟩
    · cases ho
  · cases ho
def tupB (rs : List TD) : Option TD := match rs with
  | [a] => match a.2 with
    | .lst xs => some (el a.1, .tup xs)
    | .scr xs => some (el a.1, .tup xs)
    | .tup xs => some a
    | _ => none
  | _ => none
theorem cr_tup : CallR X (.type "tuple") (rC (zx X cl) tupB) := by
  rintro pins s σ H xs us Q I r ⟨w, rs, z, eH, hw, hr, ho, q⟩
  unfold tupB at ho
  split at ho
  · rename_i a
    obtain ⟨t, d⟩ := a
    obtain ⟨v, rfl, hv⟩ := rvs1 hr
    dsimp only at ho
    subst eH
    split at ho
    · cases ho
      obtain ⟨p, vs, rfl, h3, h4⟩ := hv.lst hw
      refine call_tuple_of pins s σ _ _ us Q I r ⟨p, vs, rfl, .inl ⟨SqL.of h3, fun np hnp => ?_⟩⟩
      have := q _ _ (Gr.put hw (t := el t) hnp) (new_tup hw (el_ne t) hnp h4)
      rw [put_H] at this
      exact this
    · cases ho
      obtain ⟨p, vs, rfl, h3, h4⟩ := hv.scr hw
      refine call_tuple_of pins s σ _ _ us Q I r ⟨p, vs, rfl, .inl ⟨h3, fun np hnp => ?_⟩⟩
      have := q _ _ (Gr.put hw (t := el t) hnp) (new_tup hw (el_ne t) hnp h4)
      rw [put_H] at this
      exact this
    · cases ho
      have hv2 := hv
      obtain ⟨p, vs, rfl, h3, h4⟩ := hv.tup hw
      exact call_tuple_of pins s σ _ _ us Q I r ⟨p, vs, rfl, .inr ⟨h3, q _ w (Gr.refl hw) hv2⟩⟩
    · cases ho
  · cases ho
/-- isinstance of a built-in class -/
def tyOf : D → String
  | .non => "NoneType" | .bl _ => "bool" | .int _ => "int" | .str _ => "str" | .lst _ => "list" | .scr _ => "list" | .tup _ => "tuple" | .dic _ _ => "dict" | .ins _ _ _ => ""
def isiD (d : D) (T : String) : Option Bool := match d with
  | .ins _ _ _ => none
  | d => kitB (tyOf d) T
@[simp] def sIsi (T : String) (f : FE) : FE := fun env => (f env).bind fun x => (isiD x.2 T).map fun k => (.N, .bl k)
theorem tyX_of {K : PySem.W.Frag} {cl : Str → Option Addr} {H : Hp} {v : V} {d : D} (h : Rp ⟨K, cl⟩ H v d) (hd : ∀ c fs ds, d ≠ .ins c fs ds) : TyX K H v (.type (tyOf d)) := by
  cases h with
  | non => exact .base .non
  | bl b => exact .base (.bl b)
  | int i => exact .base (.int i)
  | str s => exact .base (.str s)
  | lst h r => exact .base (.lst h)
  | scr h r =>
    rcases h with (h | ⟨o, h⟩) | ⟨o, its, n, hk, hc, _⟩
    · exact .base (.lst h)
    · exact .base (.frz h)
    · exact .kList hk hc
  | tup h r =>
    rcases h with (h | ⟨o, h⟩) | ⟨o, its, n, hk, hc, _⟩
    · exact .base (.tup h)
    · exact .fTuple h
    · exact .kTuple hk hc
  | ins h c l r => exact absurd rfl (hd _ _ _)
  | dic h l r =>
    rcases h with h | ⟨o, h⟩
    · exact .base (.dK h)
    · exact .fDict h
theorem je_isi {T : String} {tn : Str} {p q : Pos} (ha : PE X a (tE (zx X cl) f)) (mi : X.mg "isinstance" = none) (mt : X.mg tn = none) (hT : bootBuiltins tn = some (.type T)) (hgi : Gl X "isinstance" := by rfl) (hgt : Gl X tn := by rfl)
    (hn : tn ≠ "__name__" := by decide) (hdb : (tn == ("__debug__" : Str)) = false := by decide) (he : starEach [a, .Name tn q] X.env = (false, eval a X.env) :: starEach [.Name tn q] X.env := by rfl)
    (hpl : (backTo pos (starEach [.Name tn q] X.env)).any (·.1) = false := by rfl) (he2 : starEach [.Name tn q] X.env = (false, eval (.Name tn q) X.env) :: starEach [] X.env := by rfl) :
    PE X (.Call (.Name "isinstance" p) [a, .Name tn q] [] pos) (tE (zx X cl) (sIsi T f)) := by
  refine pe_w (pe_callB call_isi hgi mi PyProof.Rows.boot_isinstance (pa_cons ha (pa_cons (pe_bltn (v := .ty T) hgt mt hT rfl hn hdb) pa_nil he2) he) (by decide) (by decide) he hpl) fun σ H Q ⟨env, w, r, e, k, hr, q⟩ => ?_
  subst e
  obtain ⟨⟨t, d⟩, h1, h2⟩ := Option.bind_eq_some_iff.mp hr
  obtain ⟨b, h3, rfl⟩ := Option.map_eq_some_iff.mp h2
  refine ⟨env, w, _, rfl, k, h1, fun v w1 g1 r1 => ⟨v, .ty T, .type (tyOf d), .type T, b, rfl, .ty T, ?_, ?_, q _ w1 g1 (nN (.bl b) rfl)⟩⟩
  · refine tyX_of (r1.top g1.wf) fun c fs ds e => ?_
    dsimp only at e h3
    rw [e] at h3
    cases h3
  · refine kit_ty ?_
    dsimp only at h3
    unfold isiD at h3
    split at h3
    · cases h3
    · exact h3
end
end Vf
namespace Vf
open PySem L2
/-! ### statements -/
@[simp] def sNx : FS := fun env => some (.nx env)
def thenO (o : Out) (b : FS) : Option Out := match o with | .nx e => b e | o => some o
@[simp] def sSeq (a b : FS) : FS := fun env => (a env).bind fun o => thenO o b
def setV (i : Nat) (r : TD) (env : Ev) : Option Ev := if i < env.s.length then (match r.1 with
  | .N => some (env.put i (.val .N r.2))
  | .B => some (env.put i (.val .B r.2))
  | _ => none) else none
@[simp] def sSet (i : Nat) (f : FE) : FS := fun env => (f env).bind fun r => (setV i r env).map .nx
def sOwn (i : Nat) (f : FL) : FS := fun env => (f env).bind fun r => if i < env.s.length then (match r.1 with
  | .N => some (.nx (env.put i (.own r.2)))
  | _ => none) else none
@[simp] def sRet (f : FE) : FS := fun env => (f env).map .rt
@[simp] def sRetN : FS := fun _ => some (.rt (.N, .non))
@[simp] def sIf (c : FT) (a b : FS) : FS := fun env => (c env).bind fun k => if k then a env else b env
@[simp] def sDrop (f : FE) : FS := fun env => (f env).map fun _ => .nx env
def sFrz (i : Nat) : FS := fun env => match env.s[i]? with
  | some (.own ds) => some (.nx (env.put i (.val .N (.lst ds))))
  | some _ => some (.nx env)
  | none => none
def sApp (i : Nat) (f : FE) : FS := fun env => match env.s[i]? with
  | some (.own ds) => (f env).bind fun r => match r.1 with
    | .N => if ds.length ≤ lim then some (.nx (env.put i (.own (ds ++ [r.2])))) else none
    | _ => none
  | _ => none
def sExt (i : Nat) (f : FE) : FS := fun env => match env.s[i]? with
  | some (.own ds) => (f env).bind fun r => match r.1, r.2 with
    | .N, .lst es => if ds.length + es.length ≤ lim then some (.nx (env.put i (.own (ds ++ es)))) else none
    | _, _ => none
  | _ => none
def sPut (i : Nat) (g f : FE) : FS := fun env => (f env).bind fun r => match env.s[i]? with
  | some (.own ds) => (g env).bind fun k => match r.1, k.2 with
    | .N, .int j => (ixN ds.length j).map fun n => .nx (env.put i (.own (ds.set n r.2)))
    | _, _ => none
  | _ => none
@[simp] def sBrk : FS := fun env => some (.bk env)
@[simp] def sCnt : FS := fun env => some (.ct env)
@[simp] def sNever : FS := fun _ => none
section
variable {Z : Zc} {env : Ev} {σ : L2.St} {w : Wd}
theorem Wok.setV (k : Wok Z env σ w) {i : Nat} (hi : i < env.s.length) {t : Tg} {d : D} {v : V} (h : t = .N ∧ Rp Z w.N v d ∨ t = .B ∧ Rp Z w.B v d) : Wok Z (env.put i (.val t d)) (σ.set i (some v)) w := by
  refine ⟨k.wf, by simpa using k.len, fun j s e => ?_, fun j j' ds es p hne e1 e2 e3 => ?_, k.tb⟩
  · by_cases hj : i = j
    · subst hj
      rw [List.getElem?_set_self hi] at e
      cases e
      exact ⟨some v, List.getElem?_set_self (by rw [k.len]; exact hi), v, rfl, h⟩
    · rw [List.getElem?_set_ne hj] at e
      obtain ⟨o, h1, h2⟩ := k.sl j s e
      exact ⟨o, by rw [List.getElem?_set_ne hj]; exact h1, h2⟩
  · have n1 : i ≠ j := fun q => by
      subst q
      rw [List.getElem?_set_self hi] at e1
      cases e1
    have n2 : i ≠ j' := fun q => by
      subst q
      rw [List.getElem?_set_self hi] at e2
      cases e2
    rw [List.getElem?_set_ne n1] at e1 e3
    rw [List.getElem?_set_ne n2] at e2 ⊢
    exact k.dj j j' ds es p hne e1 e2 e3
theorem setV_ok (k : Wok Z env σ w) {i : Nat} {r : TD} {e : Ev} {v : V} (h : Vf.setV i r env = some e) (hv : RV Z w r v) : Wok Z e (σ.set i (some v)) w := by
  unfold Vf.setV at h
  split at h
  · rename_i hi
    obtain ⟨t, d⟩ := r
    dsimp only at h
    split at h
    · cases h
      exact k.setV hi (.inl ⟨rfl, hv⟩)
    · cases h
      exact k.setV hi (.inr ⟨rfl, hv⟩)
    · cases h
  · cases h
/-- an own list at p changes -/
theorem Wok.mut (k : Wok Z env σ w) {i : Nat} {ds es : List D} {p : Addr} {vs us : List V} (he : env.s[i]? = some (.own ds)) (hs : σ[i]? = some (some (.ref p))) (hp : w.H p = some (.lst vs)) (hb : w.B p = none) (hpm : p ∉ w.m) (r : RpL Z w.N us es) :
    Wok Z (env.put i (.own es)) σ ⟨w.N, w.B, upd w.H p (.lst us), w.m⟩ ∧ Gs w ⟨w.N, w.B, upd w.H p (.lst us), w.m⟩ := by
  have wf : Wf ⟨w.N, w.B, upd w.H p (.lst us), w.m⟩ := ⟨k.wf.nb, same_up1 k.wf.bh hb⟩
  have hi : i < env.s.length := (List.getElem?_eq_some_iff.mp he).1
  refine ⟨⟨wf, by simpa using k.len, fun j s e => ?_, fun j j' ds' es' q hne e1 e2 e3 => ?_, ?_⟩, ⟨wf, .refl _, .refl _, fun x q => .inl q, List.prefix_refl _, fun _ q => .inl q⟩⟩
  · by_cases hj : i = j
    · subst hj
      rw [List.getElem?_set_self hi] at e
      cases e
      exact ⟨_, hs, p, us, rfl, upd_same, hb, hpm, r⟩
    · rw [List.getElem?_set_ne hj] at e
      obtain ⟨o, h1, h2⟩ := k.sl j s e
      refine ⟨o, h1, ?_⟩
      cases s with
      | un => exact trivial
      | val t d => exact h2
      | han n => exact h2
      | own fs =>
        obtain ⟨p', vs', e', h3, h4, h6, h5⟩ := h2
        subst e'
        have : p' ≠ p := fun q => by
          subst q
          exact k.dj i j ds fs p' hj he e hs h1
        exact ⟨p', vs', rfl, by show upd w.H p (.lst us) p' = _; rw [upd_ne this]; exact h3, h4, h6, h5⟩
  · have f : ∀ {n : Nat} {l : List D}, (env.put i (.own es)).s[n]? = some (.own l) → ∃ l', env.s[n]? = some (.own l') := fun {n l} e => by
      by_cases hn : i = n
      · subst hn
        exact ⟨ds, he⟩
      · rw [List.getElem?_set_ne hn] at e
        exact ⟨l, e⟩
    obtain ⟨l1, g1⟩ := f e1
    obtain ⟨l2, g2⟩ := f e2
    exact k.dj j j' l1 l2 q hne g1 g2 e3
  · refine k.tb.away (.refl _) rfl (fun a _ h => h) fun a ha o h => ?_
    show upd w.H p (.lst us) a = _
    rw [upd_ne (fun q => hpm (by rw [← q]; exact ha))]
    exact h
/-- a new own list -/
theorem Wok.own (k : Wok Z env σ w) {i : Nat} (hi : i < env.s.length) {w' : Wd} (g : Gr w w') {ds : List D} {p : Addr} {vs : List V} (hp : w.H p = none) (h : w'.H p = some (.lst vs)) (hb : w'.B p = none) (r : RpL Z w'.N vs ds) :
    Wok Z (env.put i (.own ds)) (σ.set i (some (.ref p))) w' := by
  have k' := k.mono g
  have hpm : p ∉ w'.m := fun q => k.tb.hh p (by rw [← g.m]; exact q) hp
  refine ⟨g.wf, by simpa using k.len, fun j s e => ?_, fun j j' ds' es' q hne e1 e2 e3 => ?_, k'.tb⟩
  · by_cases hj : i = j
    · subst hj
      rw [List.getElem?_set_self hi] at e
      cases e
      exact ⟨_, List.getElem?_set_self (by rw [k.len]; exact hi), p, vs, rfl, h, hb, hpm, r⟩
    · rw [List.getElem?_set_ne hj] at e
      obtain ⟨o, h1, h2⟩ := k'.sl j s e
      exact ⟨o, by rw [List.getElem?_set_ne hj]; exact h1, h2⟩
  · -- an elder own list stands elsewhere
    have old : ∀ {n : Nat} {l : List D}, i ≠ n → (env.put i (.own ds)).s[n]? = some (.own l) → (σ.set i (some (.ref p)))[n]? ≠ some (some (.ref p)) := fun {n l} hn e z => by
      rw [List.getElem?_set_ne hn] at e z
      obtain ⟨o, h1, p', vs', e', h3, _⟩ := k.sl n _ e
      subst e'
      rw [h1] at z
      cases z
      rw [hp] at h3
      cases h3
    by_cases h1 : i = j
    · subst h1
      rw [List.getElem?_set_self (by rw [k.len]; exact hi)] at e3
      cases e3
      exact old hne e2
    · by_cases h2 : i = j'
      · subst h2
        intro z
        rw [List.getElem?_set_self (by rw [k.len]; exact hi)] at z
        cases z
        exact old h1 e1 e3
      · rw [List.getElem?_set_ne h1] at e1 e3
        rw [List.getElem?_set_ne h2] at e2 ⊢
        exact k.dj j j' ds' es' q hne e1 e2 e3
end
section
variable {X : Cx} {cl : Str → Option Addr} {a b c e : Expr} {es : List Expr} {f g h : FE} {fa : FA} {fl : FL} {ct : FT} {A B : FS} {pos : Pos} {st : Stmt} {rest body orelse : List Stmt}
theorem js_nil : PSs X [] (tS (zx X cl) sNx) := by
  refine pss_w pss_nil fun D σ H ⟨env, w, out, e, k, hr, q⟩ => ?_
  subst e
  cases hr
  exact q σ w (Gs.refl k.wf) k
theorem js_cons (h1 : PS X st (tS (zx X cl) A)) (h2 : PSs X rest (tS (zx X cl) B)) : PSs X (st :: rest) (tS (zx X cl) (sSeq A B)) := by
  refine pss_w (pss_cons h1 h2) fun D σ H ⟨env, w, out, e, k, hr, q⟩ => ?_
  subst e
  obtain ⟨o, h3, h4⟩ := Option.bind_eq_some_iff.mp hr
  refine ⟨env, w, o, rfl, k, h3, ?_⟩
  cases o with
  | nx e' => exact fun σ' w' g' k' => ⟨e', w', out, rfl, k', h4, q.mono g'⟩
  | rt r =>
    cases h4
    exact q
  | bk e' =>
    cases h4
    exact q
  | ct e' =>
    cases h4
    exact q
  | rth x T =>
    cases h4
    exact q
/-- the last statement alone -/
theorem js_one (h1 : PS X st (tS (zx X cl) A)) : PSs X [st] (tS (zx X cl) A) := by
  refine pss_w (js_cons h1 js_nil) fun D σ H ⟨env, w, out, e, k, hr, q⟩ => ⟨env, w, out, e, k, ?_, q⟩
  unfold sSeq
  rw [hr]
  cases out <;> rfl
/-- an own list becomes everybody's -/
theorem js_frz (i : Nat) (h2 : PSs X rest (tS (zx X cl) B)) : PSs X rest (tS (zx X cl) (sSeq (sFrz i) B)) := by
  refine pss_w h2 fun D σ H ⟨env, w, out, e, k, hr, q⟩ => ?_
  subst e
  obtain ⟨o, h3, h4⟩ := Option.bind_eq_some_iff.mp hr
  unfold sFrz at h3
  split at h3
  · rename_i ds he
    cases h3
    have hi : i < env.s.length := (List.getElem?_eq_some_iff.mp he).1
    obtain ⟨o, ho, p, vs, rfl, h5, h6, hpm, h7⟩ := k.sl i _ he
    have hn : w.N p = none := k.wf.nb.free h6
    have sh : Same (upd w.B p (.lst vs)) w.H := fun b x e => by
      by_cases q : b = p
      · subst q
        rw [upd_same] at e
        rw [h5]
        exact e
      · rw [upd_ne q] at e
        exact k.wf.bh _ _ e
    have wf : Wf ⟨upd w.N p (.lst vs), upd w.B p (.lst vs), w.H, w.m⟩ := ⟨same_up2 k.wf.nb, sh⟩
    have gs : Gs w ⟨upd w.N p (.lst vs), upd w.B p (.lst vs), w.H, w.m⟩ := ⟨wf, same_up hn, same_up h6, fun x q => (upd_some q).imp id fun e => by rw [e]; exact h6, List.prefix_refl _, fun _ q => .inl q⟩
    have es : σ.set i (some (.ref p)) = σ := by
      apply List.ext_getElem?
      intro n
      by_cases hn : i = n
      · subst hn
        rw [List.getElem?_set_self (by rw [k.len]; exact hi), ho]
      · rw [List.getElem?_set_ne hn]
    have k1 : Wok (zx X cl) (env.put i .un) σ ⟨upd w.N p (.lst vs), upd w.B p (.lst vs), w.H, w.m⟩ := by
      refine ⟨wf, by simpa using k.len, fun j s e => ?_, fun j j' ds' es' q hne e1 e2 e3 => ?_, k.tb.away (same_up hn) rfl (fun a ha hb => by show upd w.B p (.lst vs) a = none; rw [upd_ne (fun q => hpm (by rw [← q]; exact ha))]; exact hb) (fun a _ o h => h)⟩
      · by_cases hj : i = j
        · subst hj
          rw [List.getElem?_set_self hi] at e
          cases e
          exact ⟨_, ho, trivial⟩
        · rw [List.getElem?_set_ne hj] at e
          obtain ⟨o, h1, h2⟩ := k.sl j s e
          refine ⟨o, h1, ?_⟩
          cases s with
          | un => exact trivial
          | val t d =>
            obtain ⟨v, e1, e2⟩ := h2
            exact ⟨v, e1, e2.imp (fun ⟨x, y⟩ => ⟨x, Rp.mono (same_up hn) y⟩) fun ⟨x, y⟩ => ⟨x, Rp.mono (same_up h6) y⟩⟩
          | han n => exact h2
          | own fs =>
            obtain ⟨p', vs', e', h3, h4, h6', h5'⟩ := h2
            subst e'
            have : p' ≠ p := fun q => by
              subst q
              exact k.dj i j ds fs p' hj he e ho h1
            exact ⟨p', vs', rfl, h3, by show upd w.B p (.lst vs) p' = none; rw [upd_ne this]; exact h4, h6', RpL.mono (same_up hn) h5'⟩
      · have n1 : i ≠ j := fun q => by
          subst q
          rw [List.getElem?_set_self hi] at e1
          cases e1
        have n2 : i ≠ j' := fun q => by
          subst q
          rw [List.getElem?_set_self hi] at e2
          cases e2
        rw [List.getElem?_set_ne n1] at e1
        rw [List.getElem?_set_ne n2] at e2
        exact k.dj j j' ds' es' q hne e1 e2 e3
    have k2 := k1.setV (i := i) (t := .N) (d := .lst ds) (v := .ref p) (by simpa using hi) (.inl ⟨rfl, .lst upd_same (RpL.mono (same_up hn) h7)⟩)
    have k2 : Wok (zx X cl) (⟨(env.s.set i .un).set i (.val .N (.lst ds)), env.t⟩ : Ev) (σ.set i (some (.ref p))) _ := k2
    rw [es, List.set_set] at k2
    exact ⟨_, ⟨upd w.N p (.lst vs), upd w.B p (.lst vs), w.H, w.m⟩, out, rfl, k2, h4, q.mono gs⟩
  · cases h3
    exact ⟨env, w, out, rfl, k, h4, q⟩
  · cases h3
theorem js_set (i : Nat) {x : Str} {p' : Pos} (hX : XS X) (he : PE X e (tE (zx X cl) f)) (hi : X.N[i]? = some x := by rfl) (hx : Loc X.env.scope x := by first | exact Or.inl rfl | exact Or.inr rfl) (hs : swapsWith e (some (.Name x p')) pos.line X.env = pure false := by rfl)
    (hf : X.fn x = true ∨ X.env.scope.names.lookup x = some .local := by first | exact .inl rfl | exact .inr rfl) : PS X (.Assign [.Name x p'] e pos) (tS (zx X cl) (sSet i f)) := by
  refine ps_w (ps_set hX.nd hi hx he hs hf) fun D σ H ⟨env, w, out, e, k, hr, q⟩ => ?_
  subst e
  obtain ⟨r, h3, h4⟩ := Option.bind_eq_some_iff.mp hr
  obtain ⟨e', h5, rfl⟩ := Option.map_eq_some_iff.mp h4
  refine ⟨env, w, r, rfl, k, h3, fun v w1 g1 r1 => ?_⟩
  exact q _ w1 (g1.gs k.wf) (setV_ok (k.mono g1) h5 r1)
theorem sOwn_rd {i : Nat} {D : Ends} {σ : L2.St} {H : Hp} {Z : Zc} (hh : tS Z (sOwn i fl) D σ H) : tL Z fl σ H fun v H1 => D.nx (σ.set i (some v)) H1 := by
  obtain ⟨env, w, out, e, k, hr, q⟩ := hh
  subst e
  obtain ⟨⟨t, ds⟩, h3, h4⟩ := Option.bind_eq_some_iff.mp hr
  dsimp only at h4
  split at h4
  · rename_i hi
    split at h4
    · cases h4
      exact ⟨env, w, .N, ds, rfl, k, h3, by decide, fun p vs w1 g1 hp hH hB r => q _ w1 (g1.gs k.wf) (k.own hi g1 hp hH hB r)⟩
    · cases h4
  · cases h4
theorem js_own (i : Nat) {x : Str} {p' : Pos} (hX : XS X) (he : PE X e (tL (zx X cl) fl)) (hi : X.N[i]? = some x := by rfl) (hx : Loc X.env.scope x := by first | exact Or.inl rfl | exact Or.inr rfl) (hs : swapsWith e (some (.Name x p')) pos.line X.env = pure false := by rfl)
    (hf : X.fn x = true ∨ X.env.scope.names.lookup x = some .local := by first | exact .inl rfl | exact .inr rfl) : PS X (.Assign [.Name x p'] e pos) (tS (zx X cl) (sOwn i fl)) :=
  ps_w (ps_set hX.nd hi hx he hs hf) fun _ _ _ hh => sOwn_rd hh
theorem js_ret (he : PE X e (tE (zx X cl) f)) : PS X (.Return (some e) pos) (tS (zx X cl) (sRet f)) := by
  refine ps_w (ps_ret he) fun D σ H ⟨env, w, out, e, k, hr, q⟩ => ?_
  subst e
  obtain ⟨r, h3, rfl⟩ := Option.map_eq_some_iff.mp hr
  exact ⟨env, w, r, rfl, k, h3, fun v w1 g1 r1 => q v w1 (g1.gs k.wf) r1⟩
theorem js_retN : PS X (.Return none pos) (tS (zx X cl) sRetN) := by
  refine ps_w ps_retN fun D σ H ⟨env, w, out, e, k, hr, q⟩ => ?_
  subst e
  cases hr
  exact q _ w (Gs.refl k.wf) (nN .non rfl)
theorem js_if (hc : PT X c (tT (zx X cl) ct)) (ha : PSs X body (tS (zx X cl) A)) (hb : PSs X orelse (tS (zx X cl) B)) : PS X (.If c body orelse pos) (tS (zx X cl) (sIf ct A B)) := by
  refine ps_w (ps_if hc ha hb) fun D σ H ⟨env, w, out, e, k, hr, q⟩ => ?_
  subst e
  obtain ⟨r, h3, h4⟩ := Option.bind_eq_some_iff.mp hr
  refine ⟨env, w, r, rfl, k, h3, fun w1 g1 => ?_⟩
  cases r with
  | true => exact ⟨env, w1, out, rfl, k.mono g1, h4, q.mono (g1.gs k.wf)⟩
  | false => exact ⟨env, w1, out, rfl, k.mono g1, h4, q.mono (g1.gs k.wf)⟩
theorem js_never : PS X st (tS (zx X cl) sNever) := ps_w ps_never fun D σ H ⟨env, w, out, e, k, hr, q⟩ => by cases hr
theorem js_brk : PS X (.Break pos) (tS (zx X cl) sBrk) := by
  refine ps_w ps_break fun D σ H ⟨env, w, out, e, k, hr, q⟩ => ?_
  subst e
  cases hr
  exact q σ w (Gs.refl k.wf) k
theorem js_cnt : PS X (.Continue pos) (tS (zx X cl) sCnt) := by
  refine ps_w ps_continue fun D σ H ⟨env, w, out, e, k, hr, q⟩ => ?_
  subst e
  cases hr
  exact q σ w (Gs.refl k.wf) k
theorem js_pass : PS X (.Pass pos) (tS (zx X cl) sNx) := by
  refine ps_w ps_pass fun D σ H ⟨env, w, out, e, k, hr, q⟩ => ?_
  subst e
  cases hr
  exact q σ w (Gs.refl k.wf) k
theorem js_drop (he : PE X e (tE (zx X cl) f)) (hs : swapsWith e none pos.line X.env = pure false := by rfl) : PS X (.Expr e pos) (tS (zx X cl) (sDrop f)) := by
  refine ps_w (ps_expr he hs) fun D σ H ⟨env, w, out, e, k, hr, q⟩ => ?_
  subst e
  obtain ⟨r, h3, rfl⟩ := Option.map_eq_some_iff.mp hr
  exact ⟨env, w, r, rfl, k, h3, fun v w1 g1 r1 => q σ w1 (g1.gs k.wf) (k.mono g1)⟩
theorem js_app (i : Nat) {x : Str} {px apos cpos : Pos} (he : PE X e (tE (zx X cl) f)) (hN : X.N[i]? = some x := by rfl) (hv : Vis X.env.scope x := by first | exact Or.inl rfl | exact Or.inr (Or.inl rfl) | exact Or.inr (Or.inr rfl))
    (hd : (x == ("__debug__" : Str)) = false := by decide) (hcd : (x == ("__classdict__" : Str)) = false := by decide) (hbase : attributeBase (.Name x px) "append" X.env (eval (.Name x px) X.env) = eval (.Name x px) X.env := by rfl)
    (hline : (apos.endLine == cpos.line) = true := by rfl) (hs : starEach [e] X.env = (false, eval e X.env) :: starEach [] X.env := by rfl)
    (hfew : ((backTo cpos (starEach [e] X.env)).all (fun x => !x.1) && (backToKw cpos (keywordEach [] X.env)).all (fun x => x.1.isSome) && decide ([e].length + ([] : List Keyword).length + (if ([] : List Keyword).isEmpty then 0 else 1) < 30)) = true := by rfl) :
    PS X (.Expr (.Call (.Attribute (.Name x px) "append" apos) [e] [] cpos) pos) (tS (zx X cl) (sApp i f)) := by
  refine ps_w (ps_expr (pe_bm PySem.F.plainAttrs_list PySem.F.slot_list_append PySem.F.type_list_append mt_append (pe_var hN hv hd hcd) (pa_cons he pa_nil hs) hbase hfew hline hs rfl)) fun D σ H ⟨env, w, out, e, k, hr, q⟩ => ?_
  subst e
  unfold sApp at hr
  split at hr
  · rename_i ds henv
    obtain ⟨r, h3, h4⟩ := Option.bind_eq_some_iff.mp hr
    obtain ⟨o, ho, p, vs, rfl, h5, h6, hpm, h7⟩ := k.sl i _ henv
    refine ⟨.ref p, ho, .inl ⟨rfl, _, SqL.of h5⟩, env, w, r, rfl, k, h3, fun v w1 g1 r1 => ?_⟩
    obtain ⟨t, d⟩ := r
    dsimp only at h4
    split at h4
    · split at h4
      · rename_i hl
        cases h4
        refine ⟨p, vs, v, rfl, rfl, g1.h _ _ h5, lim_lt (by rw [h7.length]; exact hl), ?_⟩
        obtain ⟨k2, g2⟩ := (k.mono g1).mut (us := vs ++ [v]) (es := ds ++ [d]) henv ho (g1.h _ _ h5) (own_mono g1 h5 h6) (by rw [g1.m]; exact hpm) ((RpL.mono g1.n h7).append (.cons r1 .nil))
        exact q σ _ ((g1.gs k.wf).trans g2) k2
      · cases h4
    · cases h4
  · cases hr
theorem js_ext (i : Nat) {x : Str} {px apos cpos : Pos} (he : PE X e (tE (zx X cl) f)) (hN : X.N[i]? = some x := by rfl) (hv : Vis X.env.scope x := by first | exact Or.inl rfl | exact Or.inr (Or.inl rfl) | exact Or.inr (Or.inr rfl))
    (hd : (x == ("__debug__" : Str)) = false := by decide) (hcd : (x == ("__classdict__" : Str)) = false := by decide) (hbase : attributeBase (.Name x px) "extend" X.env (eval (.Name x px) X.env) = eval (.Name x px) X.env := by rfl)
    (hline : (apos.endLine == cpos.line) = true := by rfl) (hs : starEach [e] X.env = (false, eval e X.env) :: starEach [] X.env := by rfl)
    (hfew : ((backTo cpos (starEach [e] X.env)).all (fun x => !x.1) && (backToKw cpos (keywordEach [] X.env)).all (fun x => x.1.isSome) && decide ([e].length + ([] : List Keyword).length + (if ([] : List Keyword).isEmpty then 0 else 1) < 30)) = true := by rfl) :
    PS X (.Expr (.Call (.Attribute (.Name x px) "extend" apos) [e] [] cpos) pos) (tS (zx X cl) (sExt i f)) := by
  refine ps_w (ps_expr (pe_bm PySem.F.plainAttrs_list PySem.F.slot_list_extend PySem.F.type_list_extend mt_extend (pe_var hN hv hd hcd) (pa_cons he pa_nil hs) hbase hfew hline hs rfl)) fun D σ H ⟨env, w, out, e, k, hr, q⟩ => ?_
  subst e
  unfold sExt at hr
  split at hr
  · rename_i ds henv
    obtain ⟨r, h3, h4⟩ := Option.bind_eq_some_iff.mp hr
    obtain ⟨o, ho, p, vs, rfl, h5, h6, hpm, h7⟩ := k.sl i _ henv
    refine ⟨.ref p, ho, .inl ⟨rfl, _, SqL.of h5⟩, env, w, r, rfl, k, h3, fun v w1 g1 r1 => ?_⟩
    obtain ⟨t, d⟩ := r
    dsimp only at h4
    split at h4
    · split at h4
      · rename_i es hl
        cases h4
        obtain ⟨p', us, rfl, h8, h9⟩ := RV.lst g1.wf r1
        refine ⟨p, p', vs, us, rfl, rfl, g1.h _ _ h5, h8, lim_le (by rw [h7.length, h9.length]; exact hl), ?_⟩
        obtain ⟨k2, g2⟩ := (k.mono g1).mut (us := vs ++ us) (es := ds ++ es) henv ho (g1.h _ _ h5) (own_mono g1 h5 h6) (by rw [g1.m]; exact hpm) ((RpL.mono g1.n h7).append h9)
        exact q σ _ ((g1.gs k.wf).trans g2) k2
      · cases h4
    · cases h4
  · cases hr
/-! ### what a for walks -/
abbrev WG := Wd → Wd → Prop
structure Wk (G : WG) (Z : Zc) (J : It) (w : Wd) (items : List TD) : Prop where
  stop : ∀ w', G w w' → J.stop items.length w'.H
  go : ∀ (i : Nat) (r : TD) (w' : Wd), G w w' → items[i]? = some r → J.go i w'.H ∧ ∀ x H', J.yld i w'.H x H' → ∃ w2, Gr w' w2 ∧ w2.H = H' ∧ RV Z w2 r x
structure Gwf (G : WG) : Prop where
  wf : ∀ w w', G w w' → Wf w'
theorem gwf_s : Gwf Gs := ⟨fun _ _ g => g.wf⟩
theorem gwf_r : Gwf Gr := ⟨fun _ _ g => g.wf⟩
abbrev FI := Ev → Option (List TD)
def tI (G : WG) (Z : Zc) (fi : FI) : TI := fun σ H R => ∃ env w items, w.H = H ∧ Wok Z env σ w ∧ fi env = some items ∧ ∀ J w', Gr w w' → Wk G Z J w' items → R J w'.H
theorem pi_w {tg iter : Expr} {t t' : TI} (h : PI X tg iter t) (hw : ∀ σ H R, t' σ H R → t σ H R) : PI X tg iter t' := ⟨fun pins s σ H R I q => h.run pins s σ H R I (hw _ _ _ q)⟩
def iRng (n : Nat) (lo : Int) : List TD := (List.range n).map fun k => (.N, .int (lo + (k : Nat)))
noncomputable def r1K (r : TD) : Option (List TD) := match r.2 with | .int j => cif (j < 4611686018427387904 ∧ -4611686018427387904 ≤ j) (some (iRng j.toNat 0)) none | _ => none
noncomputable def sR1 (f : FE) : FI := fun env => (f env).bind r1K
noncomputable def r2K (r r' : TD) : Option (List TD) := match r.2, r'.2 with
  | .int i, .int j => cif (i < 4611686018427387904 ∧ -4611686018427387904 ≤ i ∧ j < 4611686018427387904 ∧ -4611686018427387904 ≤ j) (some (iRng (j - i).toNat i)) none
  | _, _ => none
noncomputable def sR2 (f g : FE) : FI := fun env => (f env).bind fun r => (g env).bind fun r' => r2K r r'
def itemsOf (r : TD) : Option (List TD) := match r.1, r.2 with
  | .N, .lst xs => some (xs.map fun d => nm (.N, d))
  | .B, .lst xs => some (xs.map fun d => nm (.B, d))
  | .N, .scr xs => some (xs.map fun d => nm (.N, d))
  | .B, .scr xs => some (xs.map fun d => nm (.B, d))
  | .N, .tup xs => some (xs.map fun d => nm (.N, d))
  | .B, .tup xs => some (xs.map fun d => nm (.B, d))
  | _, _ => none
@[simp] def sIt (f : FE) : FI := fun env => (f env).bind itemsOf
theorem wk_rng {G : WG} (hG : Gwf G) {Z : Zc} {w : Wd} (n : Nat) (lo : Int) : Wk G Z (Itr lo n) w (iRng n lo) := by
  refine ⟨fun w' g => ?_, fun i r w' g hr => ?_⟩
  · show n ≤ (iRng n lo).length
    unfold iRng
    simp
  · unfold iRng at hr
    rw [List.getElem?_map] at hr
    obtain ⟨k, h1, rfl⟩ := Option.map_eq_some_iff.mp hr
    have hi : i < n := by
      have := (List.getElem?_eq_some_iff.mp h1).1
      simpa using this
    have hk : k = i := by
      rw [List.getElem?_range hi] at h1
      exact (Option.some.inj h1).symm
    subst hk
    refine ⟨hi, fun x H' hy => ⟨w', Gr.refl (hG.wf _ _ g), hy.1.symm, ?_⟩⟩
    rw [hy.2]
    exact nN (.int _) rfl
theorem ji_range1 {tg : Expr} {p : Pos} {G : WG} (hG : Gwf G) (hm : X.mg "range" = none) (ha : PA X [a] (tA (zx X cl) (sCons f sNil))) (hg : Gl X "range" := by rfl) (hs : starEach [a] X.env = [(false, eval a X.env)] := by rfl) : PI X tg (.Call (.Name "range" p) [a] [] pos) (tI G (zx X cl) (sR1 f)) := by
  refine pi_w (pi_range1 hg hm ha (hs := hs)) fun σ H R ⟨env, w, items, e, k, hr, q⟩ => ?_
  subst e
  obtain ⟨⟨t, d⟩, h1, h2⟩ := Option.bind_eq_some_iff.mp hr
  unfold r1K at h2
  dsimp only at h2
  split at h2
  · unfold cif at h2
    split at h2
    · rename_i j hj
      cases h2
      refine ⟨env, w, [(t, .int j)], rfl, k, by unfold sCons sNil; rw [h1]; rfl, fun vs w1 g1 r1 => ?_⟩
      obtain ⟨v, rfl, hv⟩ := rvs1 r1
      exact ⟨j, by rw [rv_int g1.wf hv], by omega, by omega, q _ w1 g1 (wk_rng hG _ _)⟩
    · cases h2
  · cases h2
theorem ji_range2 {tg : Expr} {p : Pos} {G : WG} (hG : Gwf G) (hm : X.mg "range" = none) (ha : PA X [a, b] (tA (zx X cl) (sCons f (sCons g sNil)))) (hg : Gl X "range" := by rfl) (hs : starEach [a, b] X.env = [(false, eval a X.env), (false, eval b X.env)] := by rfl) (hs2 : starEach [b] X.env = [(false, eval b X.env)] := by rfl) : PI X tg (.Call (.Name "range" p) [a, b] [] pos) (tI G (zx X cl) (sR2 f g)) := by
  refine pi_w (pi_range2 hg hm ha (hs := hs) (hs2 := hs2)) fun σ H R ⟨env, w, items, e, k, hr, q⟩ => ?_
  subst e
  obtain ⟨⟨t, d⟩, h1, h2⟩ := Option.bind_eq_some_iff.mp hr
  obtain ⟨⟨t', d'⟩, h1', h2⟩ := Option.bind_eq_some_iff.mp h2
  unfold r2K at h2
  dsimp only at h2
  split at h2
  · unfold cif at h2
    split at h2
    · rename_i hj
      cases h2
      refine ⟨env, w, [(t, _), (t', _)], rfl, k, by unfold sCons sNil; rw [h1, h1']; rfl, fun vs w1 g1 r1 => ?_⟩
      obtain ⟨v, v', rfl, hv, hv'⟩ := rvs2 r1
      exact ⟨_, _, by rw [rv_int g1.wf hv, rv_int g1.wf hv'], by omega, q _ w1 g1 (wk_rng hG _ _)⟩
    · cases h2
  · cases h2
theorem gs_rd {w w' : Wd} (g : Gs w w') {t : Tg} (ht : t = .N ∨ t = .B) : Same (w.rd t) (w'.rd t) := by
  rcases ht with rfl | rfl
  · exact g.n
  · exact g.b
theorem wk_l {Z : Zc} {w : Wd} {t : Tg} (ht : t = .N ∨ t = .B) {p : Addr} {vs : List V} {ds : List D} (hw : Wf w) (h : SqL Z.K (w.rd t) p vs) (r : RpL Z (w.rd t) vs ds) : Wk Gs Z (Itl Z.K p) w (ds.map fun d => nm (t, d)) := by
  have hO : t ≠ .O := by rcases ht with rfl | rfl <;> decide
  have top : ∀ {w'}, Gs w w' → SqL Z.K w'.H p vs := fun {w'} g => ((gs_rd g ht).trans (rd_le g.wf t)).seq h
  refine ⟨fun w' g => ⟨vs, top g, by rw [List.length_map, r.length]; exact Nat.le_refl _⟩, fun i rr w' g hr => ?_⟩
  rw [List.getElem?_map] at hr
  obtain ⟨d, h1, rfl⟩ := Option.map_eq_some_iff.mp hr
  obtain ⟨v, h2, h3⟩ := r.get h1
  refine ⟨⟨vs, v, top g, h2⟩, fun x H' hy => ⟨w', Gr.refl g.wf, hy.1.symm, ?_⟩⟩
  have e := hy.2 vs (top g)
  rw [h2] at e
  cases e
  exact RV.nm g.wf (RV.of hO (Rp.mono (gs_rd g ht) h3))
theorem wk_t {Z : Zc} {w : Wd} {t : Tg} (ht : t = .N ∨ t = .B) {p : Addr} {vs : List V} {ds : List D} (hw : Wf w) (h : SqT Z.K (w.rd t) p vs) (r : RpL Z (w.rd t) vs ds) : Wk Gs Z (Itt Z.K p) w (ds.map fun d => nm (t, d)) := by
  have hO : t ≠ .O := by rcases ht with rfl | rfl <;> decide
  have top : ∀ {w'}, Gs w w' → SqT Z.K w'.H p vs := fun {w'} g => sqT_mono ((gs_rd g ht).trans (rd_le g.wf t)) h
  refine ⟨fun w' g => ⟨vs, top g, by rw [List.length_map, r.length]; exact Nat.le_refl _⟩, fun i rr w' g hr => ?_⟩
  rw [List.getElem?_map] at hr
  obtain ⟨d, h1, rfl⟩ := Option.map_eq_some_iff.mp hr
  obtain ⟨v, h2, h3⟩ := r.get h1
  refine ⟨⟨vs, v, top g, h2⟩, fun x H' hy => ⟨w', Gr.refl g.wf, hy.1.symm, ?_⟩⟩
  have e := hy.2 vs (top g)
  rw [h2] at e
  cases e
  exact RV.nm g.wf (RV.of hO (Rp.mono (gs_rd g ht) h3))
theorem ji_it {tg : Expr} (ha : PE X a (tE (zx X cl) f)) : PI X tg a (tI Gs (zx X cl) (sIt f)) := by
  refine ⟨fun pins s σ H R I ⟨env, w, items, e, k, hr, q⟩ => ?_⟩
  subst e
  obtain ⟨⟨t, d⟩, h1, h2⟩ := Option.bind_eq_some_iff.mp hr
  have lst : ∀ (u : Tg), (u = .N ∨ u = .B) → ∀ (xs : List D), f env = some (u, .lst xs) → items = xs.map (fun d => nm (u, d)) → iList X.K (tE (zx X cl) f) σ w.H R := fun u hu xs hf hi =>
    ⟨env, w, _, rfl, k, hf, fun v w1 g1 r1 => by
      have hO : u ≠ .O := by rcases hu with rfl | rfl <;> decide
      have r2 := RV.rp hO r1
      cases r2 with
      | lst h r =>
        refine ⟨_, rfl, ⟨_, SqL.of (rd_le g1.wf u _ _ h)⟩, q _ w1 g1 ?_⟩
        rw [hi]
        exact wk_l hu g1.wf (SqL.of h) r⟩
  have scr : ∀ (u : Tg), (u = .N ∨ u = .B) → ∀ (xs : List D), f env = some (u, .scr xs) → items = xs.map (fun d => nm (u, d)) → iList X.K (tE (zx X cl) f) σ w.H R := fun u hu xs hf hi =>
    ⟨env, w, _, rfl, k, hf, fun v w1 g1 r1 => by
      have hO : u ≠ .O := by rcases hu with rfl | rfl <;> decide
      have r2 := RV.rp hO r1
      cases r2 with
      | scr h r =>
        refine ⟨_, rfl, ⟨_, (rd_le g1.wf u).seq h⟩, q _ w1 g1 ?_⟩
        rw [hi]
        exact wk_l hu g1.wf h r⟩
  have tup : ∀ (u : Tg), (u = .N ∨ u = .B) → ∀ (xs : List D), f env = some (u, .tup xs) → items = xs.map (fun d => nm (u, d)) → iTup X.K (tE (zx X cl) f) σ w.H R := fun u hu xs hf hi =>
    ⟨env, w, _, rfl, k, hf, fun v w1 g1 r1 => by
      have hO : u ≠ .O := by rcases hu with rfl | rfl <;> decide
      have r2 := RV.rp hO r1
      cases r2 with
      | tup h r =>
        refine ⟨_, rfl, ⟨_, sqT_mono (rd_le g1.wf u) h⟩, q _ w1 g1 ?_⟩
        rw [hi]
        exact wk_t hu g1.wf h r⟩
  unfold itemsOf at h2
  dsimp only at h2
  split at h2 <;> first
    | exact (pi_list ha).run pins s σ _ R I (lst _ (.inl rfl) _ h1 (Option.some.inj h2).symm)
    | exact (pi_list ha).run pins s σ _ R I (lst _ (.inr rfl) _ h1 (Option.some.inj h2).symm)
    | exact (pi_list ha).run pins s σ _ R I (scr _ (.inl rfl) _ h1 (Option.some.inj h2).symm)
    | exact (pi_list ha).run pins s σ _ R I (scr _ (.inr rfl) _ h1 (Option.some.inj h2).symm)
    | exact (pi_tup ha).run pins s σ _ R I (tup _ (.inl rfl) _ h1 (Option.some.inj h2).symm)
    | exact (pi_tup ha).run pins s σ _ R I (tup _ (.inr rfl) _ h1 (Option.some.inj h2).symm)
    | cases h2
/-! within a comprehension any list may be walked -/
def itemsR (r : TD) : Option (List TD) := match r.2 with
  | .lst xs => some (xs.map fun d => nm (el r.1, d))
  | .scr xs => some (xs.map fun d => nm (el r.1, d))
  | .tup xs => some (xs.map fun d => nm (el r.1, d))
  | _ => none
@[simp] def sItr (f : FE) : FI := fun env => (f env).bind itemsR
theorem wkr_l {Z : Zc} {w : Wd} {t : Tg} (ht : t ≠ .O) {p : Addr} {vs : List V} {ds : List D} (h : SqL Z.K w.H p vs) (r : RpL Z (w.rd t) vs ds) : Wk Gr Z (Itl Z.K p) w (ds.map fun d => nm (t, d)) := by
  have top : ∀ {w'}, Gr w w' → SqL Z.K w'.H p vs := fun {w'} g => g.h.seq h
  refine ⟨fun w' g => ⟨vs, top g, by rw [List.length_map, r.length]; exact Nat.le_refl _⟩, fun i rr w' g hr => ?_⟩
  rw [List.getElem?_map] at hr
  obtain ⟨d, h1, rfl⟩ := Option.map_eq_some_iff.mp hr
  obtain ⟨v, h2, h3⟩ := r.get h1
  refine ⟨⟨vs, v, top g, h2⟩, fun x H' hy => ⟨w', Gr.refl g.wf, hy.1.symm, ?_⟩⟩
  have e := hy.2 vs (top g)
  rw [h2] at e
  cases e
  exact RV.nm g.wf (RV.of ht (Rp.mono (rd_gr g t) h3))
theorem wkr_t {Z : Zc} {w : Wd} {t : Tg} (ht : t ≠ .O) {p : Addr} {vs : List V} {ds : List D} (h : SqT Z.K w.H p vs) (r : RpL Z (w.rd t) vs ds) : Wk Gr Z (Itt Z.K p) w (ds.map fun d => nm (t, d)) := by
  have top : ∀ {w'}, Gr w w' → SqT Z.K w'.H p vs := fun {w'} g => sqT_mono g.h h
  refine ⟨fun w' g => ⟨vs, top g, by rw [List.length_map, r.length]; exact Nat.le_refl _⟩, fun i rr w' g hr => ?_⟩
  rw [List.getElem?_map] at hr
  obtain ⟨d, h1, rfl⟩ := Option.map_eq_some_iff.mp hr
  obtain ⟨v, h2, h3⟩ := r.get h1
  refine ⟨⟨vs, v, top g, h2⟩, fun x H' hy => ⟨w', Gr.refl g.wf, hy.1.symm, ?_⟩⟩
  have e := hy.2 vs (top g)
  rw [h2] at e
  cases e
  exact RV.nm g.wf (RV.of ht (Rp.mono (rd_gr g t) h3))
theorem jir_it {tg : Expr} (ha : PE X a (tE (zx X cl) f)) : PI X tg a (tI Gr (zx X cl) (sItr f)) := by
  refine ⟨fun pins s σ H R I ⟨env, w, items, e, k, hr, q⟩ => ?_⟩
  subst e
  obtain ⟨⟨t, d⟩, h1, h2⟩ := Option.bind_eq_some_iff.mp hr
  unfold itemsR at h2
  dsimp only at h2
  split at h2
  · cases h2
    exact (pi_list ha).run pins s σ _ R I ⟨env, w, _, rfl, k, h1, fun v w1 g1 r1 => by
      obtain ⟨p, vs, rfl, h3, h4⟩ := RV.lst g1.wf r1
      exact ⟨_, rfl, ⟨_, SqL.of h3⟩, q _ w1 g1 (wkr_l (el_ne t) (SqL.of h3) h4)⟩⟩
  · cases h2
    exact (pi_list ha).run pins s σ _ R I ⟨env, w, _, rfl, k, h1, fun v w1 g1 r1 => by
      obtain ⟨p, vs, rfl, h3, h4⟩ := RV.scr g1.wf r1
      exact ⟨_, rfl, ⟨_, h3⟩, q _ w1 g1 (wkr_l (el_ne t) h3 h4)⟩⟩
  · cases h2
    exact (pi_tup ha).run pins s σ _ R I ⟨env, w, _, rfl, k, h1, fun v w1 g1 r1 => by
      obtain ⟨p, vs, rfl, h3, h4⟩ := RV.tup g1.wf r1
      exact ⟨_, rfl, ⟨_, h3⟩, q _ w1 g1 (wkr_t (el_ne t) h3 h4)⟩⟩
  · cases h2
/-- a text, sign by sign -/
def signsOf (r : TD) : Option (List TD) := match r.2 with
  | .str z => some (z.cps.toList.map fun c => (.N, .str ⟨#[c]⟩))
  | _ => none
@[simp] def sIs (f : FE) : FI := fun env => (f env).bind signsOf
theorem ji_str {tg : Expr} {G : WG} (hG : Gwf G) (ha : PE X a (tE (zx X cl) f)) : PI X tg a (tI G (zx X cl) (sIs f)) := by
  refine pi_w (pi_str ha) fun σ H R ⟨env, w, items, e, k, hr, q⟩ => ?_
  subst e
  obtain ⟨⟨t, d⟩, h1, h2⟩ := Option.bind_eq_some_iff.mp hr
  unfold signsOf at h2
  dsimp only at h2
  split at h2
  · rename_i z
    cases h2
    refine ⟨env, w, _, rfl, k, h1, fun v w1 g1 r1 => ⟨z, rv_str g1.wf r1, q _ w1 g1 ⟨fun w' g => ?_, fun i r w' g hr => ?_⟩⟩⟩
    · show z.cps.size ≤ _
      simp
    · rw [List.getElem?_map] at hr
      obtain ⟨c, h3, rfl⟩ := Option.map_eq_some_iff.mp hr
      have h4 : z.cps[i]? = some c := by simpa using h3
      refine ⟨?_, fun x H' hy => ⟨w', Gr.refl (hG.wf _ _ g), hy.1.symm, ?_⟩⟩
      · show i < z.cps.size
        exact (Array.getElem?_eq_some_iff.mp h4).1
      · obtain ⟨c', h5, rfl⟩ := hy.2
        rw [h4] at h5
        cases h5
        exact nN (.str ⟨#[c]⟩) rfl
  · cases h2
def oNeg (r : TD) : Option TD := match r.2 with | .int i => some (.N, .int (-i)) | _ => none
theorem je_neg (ha : PE X a (tE (zx X cl) f)) : PE X (.UnaryOp .USub a pos) (tE (zx X cl) (sUn oNeg f)) := by
  refine pe_w (pe_un un_neg ha) fun σ H Q ⟨env, w, r, e, k, hr, q⟩ => ?_
  subst e
  obtain ⟨⟨t, d⟩, h1, h2⟩ := Option.bind_eq_some_iff.mp hr
  unfold oNeg at h2
  dsimp only at h2
  split at h2
  · rename_i i
    cases h2
    exact ⟨env, w, _, rfl, k, h1, fun v w1 g1 r1 => ⟨i, rv_int g1.wf r1, q _ w1 g1 (nN (.int (-i)) rfl)⟩⟩
  · cases h2
/-! x += e, x -= e (ints) -/
def augI (g : Int → Int → Int) (i : Nat) (f : FE) : FS := fun env => (sVar i env).bind fun a => (f env).bind fun b => match a.2, b.2 with
  | .int x, .int y => (setV i (.N, .int (g x y)) env).map .nx
  | _, _ => none
theorem js_augI {g : Int → Int → Int} {op : Operator} (hg : PIp X op (ipI g)) (i : Nat) {x : Str} {p' : Pos} (hX : XS X) (he : PE X e (tE (zx X cl) f)) (hi : X.N[i]? = some x := by rfl) (hx : Loc X.env.scope x := by first | exact Or.inl rfl | exact Or.inr rfl)
    (hf : X.fn x = true ∨ X.env.scope.names.lookup x = some .local := by first | exact .inl rfl | exact .inr rfl) : PS X (.AugAssign (.Name x p') op e pos) (tS (zx X cl) (augI g i f)) := by
  refine ps_w (ps_aug (i := i) hX.nd hi hx he hg hf) fun D σ H ⟨env, w, out, e, k, hr, q⟩ => ?_
  subst e
  obtain ⟨⟨t, a⟩, h1, h2⟩ := Option.bind_eq_some_iff.mp hr
  obtain ⟨⟨t', b⟩, h3, h4⟩ := Option.bind_eq_some_iff.mp h2
  dsimp only at h4
  split at h4
  · rename_i x' y'
    obtain ⟨e', h5, rfl⟩ := Option.map_eq_some_iff.mp h4
    unfold sVar at h1
    split at h1
    · rename_i t2 d2 he2
      obtain ⟨o, ho, v, rfl, hv⟩ := k.sl i _ he2
      have hd : d2 = .int x' := by cases d2 <;> simp [nm] at h1 <;> first | exact (by rw [h1.2]) | skip
      subst hd
      have ev : v = .int x' := by
        rcases hv with ⟨_, hv⟩ | ⟨_, hv⟩ <;> (cases hv; rfl)
      subst ev
      refine ⟨_, ho, env, w, _, rfl, k, h3, fun u w1 g1 r1 => ⟨x', y', rfl, rv_int g1.wf r1, ?_⟩⟩
      exact q _ w1 (g1.gs k.wf) (setV_ok (k.mono g1) h5 (nN (.int (g x' y')) rfl))
    · cases h1
    · cases h1
  · cases h4
/-! reversed(e) -/
def itemsRev (r : TD) : Option (List TD) := match r.1, r.2 with
  | .N, .lst xs => some (xs.reverse.map fun d => nm (.N, d))
  | .B, .lst xs => some (xs.reverse.map fun d => nm (.B, d))
  | .N, .tup xs => some (xs.reverse.map fun d => nm (.N, d))
  | .B, .tup xs => some (xs.reverse.map fun d => nm (.B, d))
  | _, _ => none
def sRev (f : FE) : FI := fun env => (f env).bind itemsRev
theorem wk_rl {Z : Zc} {w : Wd} {t : Tg} (ht : t = .N ∨ t = .B) {p : Addr} {vs : List V} {ds : List D} (h : SqL Z.K (w.rd t) p vs) (r : RpL Z (w.rd t) vs ds) : Wk Gs Z (Itv Z.K p vs.length) w (ds.reverse.map fun d => nm (t, d)) := by
  have hO : t ≠ .O := by rcases ht with rfl | rfl <;> decide
  have top : ∀ {w'}, Gs w w' → SqL Z.K w'.H p vs := fun {w'} g => ((gs_rd g ht).trans (rd_le g.wf t)).seq h
  have hlen := r.length
  refine ⟨fun w' g => ?_, fun i rr w' g hr => ?_⟩
  · show vs.length ≤ _
    simp [hlen]
  · rw [List.getElem?_map] at hr
    obtain ⟨d, h1, rfl⟩ := Option.map_eq_some_iff.mp hr
    have hi : i < ds.length := by
      have := (List.getElem?_eq_some_iff.mp h1).1
      simpa using this
    rw [List.getElem?_reverse hi] at h1
    obtain ⟨v, h2, h3⟩ := r.get h1
    rw [← hlen] at h2
    refine ⟨⟨by omega, vs, v, top g, h2⟩, fun x H' hy => ⟨w', Gr.refl g.wf, hy.1.symm, ?_⟩⟩
    have e := hy.2 vs (top g)
    rw [h2] at e
    cases e
    exact RV.nm g.wf (RV.of hO (Rp.mono (gs_rd g ht) h3))
theorem wk_rt {Z : Zc} {w : Wd} {t : Tg} (ht : t = .N ∨ t = .B) {p : Addr} {vs : List V} {ds : List D} (h : SqT Z.K (w.rd t) p vs) (r : RpL Z (w.rd t) vs ds) : Wk Gs Z (RT.ItvT Z.K p vs.length) w (ds.reverse.map fun d => nm (t, d)) := by
  have hO : t ≠ .O := by rcases ht with rfl | rfl <;> decide
  have top : ∀ {w'}, Gs w w' → SqT Z.K w'.H p vs := fun {w'} g => sqT_mono ((gs_rd g ht).trans (rd_le g.wf t)) h
  have hlen := r.length
  refine ⟨fun w' g => ?_, fun i rr w' g hr => ?_⟩
  · show vs.length ≤ _
    simp [hlen]
  · rw [List.getElem?_map] at hr
    obtain ⟨d, h1, rfl⟩ := Option.map_eq_some_iff.mp hr
    have hi : i < ds.length := by
      have := (List.getElem?_eq_some_iff.mp h1).1
      simpa using this
    rw [List.getElem?_reverse hi] at h1
    obtain ⟨v, h2, h3⟩ := r.get h1
    rw [← hlen] at h2
    refine ⟨⟨by omega, vs, v, top g, h2⟩, fun x H' hy => ⟨w', Gr.refl g.wf, hy.1.symm, ?_⟩⟩
    have e := hy.2 vs (top g)
    rw [h2] at e
    cases e
    exact RV.nm g.wf (RV.of hO (Rp.mono (gs_rd g ht) h3))
theorem ji_rev {tg : Expr} {p : Pos} (hm : X.mg "reversed" = none) (ha : PE X a (tE (zx X cl) f)) (hg : Gl X "reversed" := by rfl) (hs : starEach [a] X.env = (false, eval a X.env) :: starEach [] X.env := by rfl) : PI X tg (.Call (.Name "reversed" p) [a] [] pos) (tI Gs (zx X cl) (sRev f)) := by
  refine pi_w (RT.pi_revA hg hm ha hs) fun σ H R ⟨env, w, items, e, k, hr, q⟩ => ?_
  subst e
  obtain ⟨⟨t, d⟩, h1, h2⟩ := Option.bind_eq_some_iff.mp hr
  refine ⟨env, w, _, rfl, k, h1, fun v w1 g1 r1 => ?_⟩
  unfold itemsRev at h2
  dsimp only at h2
  split at h2
  · cases h2
    cases r1 with
    | lst h r => exact ⟨_, _, rfl, .inl ⟨SqL.of (g1.wf.nh _ _ h), q _ w1 g1 (wk_rl (.inl rfl) (SqL.of h) r)⟩⟩
  · cases h2
    cases r1 with
    | lst h r => exact ⟨_, _, rfl, .inl ⟨SqL.of (g1.wf.bh _ _ h), q _ w1 g1 (wk_rl (.inr rfl) (SqL.of h) r)⟩⟩
  · cases h2
    cases r1 with
    | tup h r => exact ⟨_, _, rfl, .inr ⟨sqT_mono g1.wf.nh h, q _ w1 g1 (wk_rt (.inl rfl) h r)⟩⟩
  · cases h2
    cases r1 with
    | tup h r => exact ⟨_, _, rfl, .inr ⟨sqT_mono g1.wf.bh h, q _ w1 g1 (wk_rt (.inr rfl) h r)⟩⟩
  · cases h2
/-! a try whose body raises nothing -/
theorem js_try0 {h₀ : ExceptHandler} {hs : List ExceptHandler} (hn : ∀ e s, ¬ X.xe e s) (hb : PSs X body (tS (zx X cl) A)) : PS X (.Try body (h₀ :: hs) [] [] pos) (tS (zx X cl) A) :=
  ps_w (ps_try_never hn hb pss_nil) fun D σ H hh => hh
end
end Vf
namespace Vf
open PySem L2
/-! ### targets -/
def tG (Z : Zc) (is : List Nat) (st : TD → Ev → Option Ev) : TG := fun v σ H Q => ∃ env w r e, w.H = H ∧ Wok Z env σ w ∧ RV Z w r v ∧ st r env = some e ∧
  ∀ σ' w', Gr w w' → Wok Z e σ' w' → (∀ n, n ∉ is → σ'[n]? = σ[n]?) → σ'.length = σ.length → Q σ' w'.H
def tGs (Z : Zc) (is : List Nat) (st : List TD → Ev → Option Ev) : TGs := fun vs σ H Q => ∃ env w rs e, w.H = H ∧ Wok Z env σ w ∧ RVs Z w rs vs ∧ st rs env = some e ∧
  ∀ σ' w', Gr w w' → Wok Z e σ' w' → (∀ n, n ∉ is → σ'[n]? = σ[n]?) → σ'.length = σ.length → Q σ' w'.H
def setNil : List TD → Ev → Option Ev := fun rs env => match rs with | [] => some env | _ => none
def setCons (s : TD → Ev → Option Ev) (l : List TD → Ev → Option Ev) : List TD → Ev → Option Ev := fun rs env => match rs with | r :: rs => (s r env).bind fun e => l rs e | _ => none
def unp (r : TD) : Option (List TD) := match r.2 with
  | .tup xs => some (xs.map fun d => nm (el r.1, d))
  | .lst xs => some (xs.map fun d => nm (el r.1, d))
  | .scr xs => some (xs.map fun d => nm (el r.1, d))
  | _ => none
def setTup (n : Nat) (l : List TD → Ev → Option Ev) : TD → Ev → Option Ev := fun r env => (unp r).bind fun rs => if rs.length = n then l rs env else none
theorem rvs_of {Z : Zc} {w : Wd} (hw : Wf w) {t : Tg} (ht : t ≠ .O) : ∀ {vs : List V} {ds : List D}, RpL Z (w.rd t) vs ds → RVs Z w (ds.map fun d => nm (t, d)) vs
  | _, _, .nil => trivial
  | _, _, .cons h r => ⟨RV.nm hw (RV.of ht h), rvs_of hw ht r⟩
section
variable {X : Cx} {cl : Str → Option Addr} {a b c e tg iter elt : Expr} {es : List Expr} {f g h : FE} {fa : FA} {fl : FL} {ct : FT} {A B : FS} {pos : Pos} {st : Stmt} {rest body orelse : List Stmt} {fi : FI} {is js : List Nat} {s : TD → Ev → Option Ev} {l : List TD → Ev → Option Ev}
theorem jg_name (i : Nat) {x : Str} (hX : XS X) (hi : X.N[i]? = some x := by rfl) (hx : Loc X.env.scope x := by first | exact Or.inl rfl | exact Or.inr rfl) (hf : X.fn x = true ∨ X.env.scope.names.lookup x = some .local := by first | exact .inl rfl | exact .inr rfl) : PG X (.Name x pos) (tG (zx X cl) [i] (setV i)) := by
  refine ⟨fun pins s σ H v u Q I r ⟨env, w, rr, e, eH, k, hv, hs, q⟩ => (pg_name (i := i) hX.nd hi hx hf).run pins s σ H v u Q I r ?_⟩
  subst eH
  exact q _ w (Gr.refl k.wf) (setV_ok k hs hv) (fun n hn => List.getElem?_set_ne fun e => hn (by rw [← e]; exact List.mem_singleton.mpr rfl)) List.length_set
theorem jgs_nil : PGs X [] (tGs (zx X cl) [] setNil) := by
  refine ⟨fun pins s σ H vs us Q I r ⟨env, w, rs, e, eH, k, hv, hs, q⟩ => pgs_nil.run pins s σ H vs us Q I r ?_⟩
  subst eH
  match rs, vs, hv, hs with
  | [], [], _, hs => cases hs; exact ⟨rfl, q σ w (Gr.refl k.wf) k (fun _ _ => rfl) rfl⟩
theorem jgs_cons (h1 : PG X e (tG (zx X cl) is s)) (h2 : PGs X es (tGs (zx X cl) js l)) (hs : (assignEach (e :: es) X.env).map (·.2) = assign e X.env :: (assignEach es X.env).map (·.2) := by rfl) : PGs X (e :: es) (tGs (zx X cl) (is ++ js) (setCons s l)) := by
  refine ⟨fun pins s' σ H vs us Q I r ⟨env, w, rs, e', eH, k, hv, hs', q⟩ => (pgs_cons h1 h2 hs).run pins s' σ H vs us Q I r ?_⟩
  subst eH
  match rs, vs, hv, hs' with
  | r0 :: rs, v :: vs, hv, hs' =>
    obtain ⟨e1, h3, h4⟩ := Option.bind_eq_some_iff.mp hs'
    refine ⟨v, vs, rfl, env, w, r0, e1, rfl, k, hv.1, h3, fun σ1 w1 g1 k1 f1 l1 => ⟨e1, w1, rs, e', rfl, k1, hv.2.mono g1, h4, fun σ2 w2 g2 k2 f2 l2 => q σ2 w2 (g1.trans g2) k2 (fun n hn => ?_) (l2.trans l1)⟩⟩
    rw [f2 n fun z => hn (List.mem_append_right _ z), f1 n fun z => hn (List.mem_append_left _ z)]
theorem jg_tup {n k0 : Nat} (hX : XS X) (h2 : PGs X es (tGs (zx X cl) is l)) (hn : (assignEach es X.env).length = n := by rfl) (hst : (assignEach es X.env).findIdx? (·.1) = none := by rfl) : PG X (.Tuple es k0 pos) (tG (zx X cl) is (setTup n l)) := by
  refine ⟨fun pins s' σ H v u Q I r ⟨env, w, rr, e', eH, k, hv, hs', q⟩ => ?_⟩
  subst eH
  obtain ⟨rs, h3, h4⟩ := Option.bind_eq_some_iff.mp hs'
  split at h4
  · rename_i hl
    obtain ⟨t, d⟩ := rr
    unfold unp at h3
    dsimp only at h3
    split at h3
    · cases h3
      obtain ⟨p, vs, rfl, h5, h6⟩ := hv.tup k.wf
      exact (pg_tup hX.calm h2 hn hst).run pins s' σ _ _ u Q I r ⟨p, vs, rfl, h5, by rw [h6.length]; simpa using hl, env, w, _, e', rfl, k, rvs_of k.wf (el_ne t) h6, h4, q⟩
    · cases h3
      obtain ⟨p, vs, rfl, h5, h6⟩ := hv.lst k.wf
      exact (pg_lst hX.calm h2 hn hst).run pins s' σ _ _ u Q I r ⟨p, vs, rfl, SqL.of h5, by rw [h6.length]; simpa using hl, env, w, _, e', rfl, k, rvs_of k.wf (el_ne t) h6, h4, q⟩
    · cases h3
      obtain ⟨p, vs, rfl, h5, h6⟩ := hv.scr k.wf
      exact (pg_lst hX.calm h2 hn hst).run pins s' σ _ _ u Q I r ⟨p, vs, rfl, h5, by rw [h6.length]; simpa using hl, env, w, _, e', rfl, k, rvs_of k.wf (el_ne t) h6, h4, q⟩
    · cases h3
  · cases h4
@[simp] def sAsg (f : FE) (s : TD → Ev → Option Ev) : FS := fun env => (f env).bind fun r => (s r env).map .nx
theorem js_asg (he : PE X e (tE (zx X cl) f)) (hg : PG X tg (tG (zx X cl) is s)) (hs : swapsWithSole [tg] e pos.line X.env = pure false := by rfl) (hw : swappedStores [tg] e X.env = pure none := by rfl)
    (h1 : (assignEach [tg] X.env).map (·.2) = [assign tg X.env] := by rfl) : PS X (.Assign [tg] e pos) (tS (zx X cl) (sAsg f s)) := by
  refine ps_w (ps_asg he hg hs hw h1) fun D σ H ⟨env, w, out, e, k, hr, q⟩ => ?_
  subst e
  obtain ⟨r, h3, h4⟩ := Option.bind_eq_some_iff.mp hr
  obtain ⟨e', h5, rfl⟩ := Option.map_eq_some_iff.mp h4
  exact ⟨env, w, r, rfl, k, h3, fun v w1 g1 r1 => ⟨env, w1, r, e', rfl, k.mono g1, r1, h5, fun σ' w2 g2 k2 _ _ => q σ' w2 ((g1.trans g2).gs k.wf) k2⟩⟩
/-! ### for, while -/
def forL (A : FS) (s : TD → Ev → Option Ev) : List TD → Ev → Option Out
  | [], env => some (.nx env)
  | r :: rs, env => (s r env).bind fun e => (A e).bind fun o => match o with
    | .nx e' => forL A s rs e'
    | .ct e' => forL A s rs e'
    | .bk e' => some (.nx e')
    | .rt r => some (.rt r)
    | .rth x T => some (.rth x T)
@[simp] def sFor (fi : FI) (s : TD → Ev → Option Ev) (A : FS) : FS := fun env => (fi env).bind fun items => forL A s items env
theorem js_for (hp : PassesOwn (model X.prog X.w) X.A X.env X.xe) (hX : XS X) (hi : PI X tg iter (tI Gs (zx X cl) fi)) (hg : PG X tg (tG (zx X cl) is s)) (hb : PSs X body (tS (zx X cl) A)) (hs : ∀ x, foldedSetIterable iter X.env x = pure x := by intro _; rfl) :
    PS X (.For tg iter body [] pos) (tS (zx X cl) (sFor fi s A)) := by
  refine ps_w (ps_for hp hX.calm hi hg hb hs) fun D σ H ⟨env, w, out, e, k, hr, q⟩ => ?_
  subst e
  obtain ⟨items, h3, h4⟩ := Option.bind_eq_some_iff.mp hr
  refine ⟨env, w, items, rfl, k, h3, fun J w1 g1 wk => ?_⟩
  refine ⟨fun i m σ' H' => ∃ env' w', w'.H = H' ∧ Wok (zx X cl) env' σ' w' ∧ Gs w1 w' ∧ m = items.length - i ∧ i ≤ items.length ∧ forL A s (items.drop i) env' = some out, ⟨items.length, env, w1, rfl, k.mono g1, Gs.refl g1.wf, rfl, Nat.zero_le _, h4⟩, ?_⟩
  rintro i m σ' H' ⟨env', w', rfl, k', gs, rfl, hi, hf⟩
  by_cases hlt : i < items.length
  · obtain ⟨r, hr⟩ : ∃ r, items[i]? = some r := ⟨items[i], List.getElem?_eq_getElem hlt⟩
    have hd : items.drop i = r :: items.drop (i + 1) := by
      rw [List.drop_eq_getElem_cons hlt]
      rw [List.getElem?_eq_getElem hlt] at hr
      rw [Option.some.inj hr]
    rw [hd] at hf
    obtain ⟨e1, h5, h6⟩ := Option.bind_eq_some_iff.mp hf
    obtain ⟨o, h7, h8⟩ := Option.bind_eq_some_iff.mp h6
    obtain ⟨go, yl⟩ := wk.go i r w' gs hr
    refine .inr ⟨go, fun σ2 H2 => ∃ m', m' < items.length - i ∧ ∃ env' w', w'.H = H2 ∧ Wok (zx X cl) env' σ2 w' ∧ Gs w1 w' ∧ m' = items.length - (i + 1) ∧ i + 1 ≤ items.length ∧ forL A s (items.drop (i + 1)) env' = some out, fun _ _ z => z, fun x H2 hy => ?_⟩
    obtain ⟨w2, g2, rfl, r2⟩ := yl x H2 hy
    refine ⟨env', w2, r, e1, rfl, k'.mono g2, r2, h5, fun σ3 w3 g3 k3 _ _ => ⟨e1, w3, o, rfl, k3, h7, ?_⟩⟩
    have g23 : Gs w' w3 := (g2.trans g3).gs k'.wf
    cases o with
    | nx e' => exact fun σ4 w4 g4 k4 => ⟨_, by omega, e', w4, rfl, k4, (gs.trans g23).trans g4, rfl, hlt, h8⟩
    | ct e' => exact fun σ4 w4 g4 k4 => ⟨_, by omega, e', w4, rfl, k4, (gs.trans g23).trans g4, rfl, hlt, h8⟩
    | bk e' =>
      cases h8
      exact fun σ4 w4 g4 k4 => q σ4 w4 ((((g1.gs k.wf).trans gs).trans g23).trans g4) k4
    | rt r' =>
      cases h8
      exact fun v w4 g4 r4 => q v w4 ((((g1.gs k.wf).trans gs).trans g23).trans g4) r4
    | rth x T =>
      cases h8
      exact fun v w4 g4 r4 t4 => q v w4 ((((g1.gs k.wf).trans gs).trans g23).trans g4) r4 t4
  · have e : i = items.length := by omega
    subst e
    refine .inl ⟨wk.stop w' gs, ?_⟩
    rw [List.drop_length] at hf
    cases hf
    exact q σ' w' ((g1.gs k.wf).trans gs) k'
def whL (c : FT) (A : FS) : Nat → Ev → Option Out
  | 0, _ => none
  | n + 1, env => (c env).bind fun k => if k then (A env).bind fun o => match o with
    | .nx e' => whL c A n e'
    | .ct e' => whL c A n e'
    | .bk e' => some (.nx e')
    | .rt r => some (.rt r)
    | .rth x T => some (.rth x T)
    else some (.nx env)
def fuel : Nat := 1000000
def sWh (c : FT) (A : FS) : FS := fun env => whL c A fuel env
theorem js_while (hp : PassesOwn (model X.prog X.w) X.A X.env X.xe) (hc : PT X c (tT (zx X cl) ct)) (hb : PSs X body (tS (zx X cl) A)) : PS X (.While c body [] pos) (tS (zx X cl) (sWh ct A)) := by
  refine ps_w (ps_while hp hc hb) fun D σ H ⟨env, w, out, e, k, hr, q⟩ => ?_
  subst e
  refine ⟨fun m σ' H' => ∃ env' w', w'.H = H' ∧ Wok (zx X cl) env' σ' w' ∧ Gs w w' ∧ whL ct A m env' = some out, ⟨fuel, env, w, rfl, k, Gs.refl k.wf, hr⟩, ?_⟩
  rintro m σ' H' ⟨env', w', rfl, k', gs, hf⟩
  cases m with
  | zero => cases hf
  | succ m =>
    obtain ⟨b, h3, h4⟩ := Option.bind_eq_some_iff.mp hf
    refine ⟨env', w', b, rfl, k', h3, fun w1 g1 => ?_⟩
    have g01 : Gs w w1 := gs.trans (g1.gs k'.wf)
    cases b with
    | false =>
      cases h4
      exact q σ' w1 g01 (k'.mono g1)
    | true =>
      obtain ⟨o, h7, h8⟩ := Option.bind_eq_some_iff.mp h4
      refine ⟨fun σ2 H2 => ∃ m', m' < m + 1 ∧ ∃ env' w', w'.H = H2 ∧ Wok (zx X cl) env' σ2 w' ∧ Gs w w' ∧ whL ct A m' env' = some out, fun _ _ z => z, env', w1, o, rfl, k'.mono g1, h7, ?_⟩
      cases o with
      | nx e' => exact fun σ4 w4 g4 k4 => ⟨m, Nat.lt_succ_self m, e', w4, rfl, k4, g01.trans g4, h8⟩
      | ct e' => exact fun σ4 w4 g4 k4 => ⟨m, Nat.lt_succ_self m, e', w4, rfl, k4, g01.trans g4, h8⟩
      | bk e' =>
        cases h8
        exact fun σ4 w4 g4 k4 => q σ4 w4 (g01.trans g4) k4
      | rt r' =>
        cases h8
        exact fun v w4 g4 r4 => q v w4 (g01.trans g4) r4
      | rth x T =>
        cases h8
        exact fun v w4 g4 r4 t4 => q v w4 (g01.trans g4) r4 t4
/-! ### comprehensions -/
def wipeE (env : Ev) : List Nat → Ev
  | [] => env
  | v :: vs => (wipeE env vs).put v .un
def okT : Tg → Bool | .N => true | .B => true | _ => false
def lcL (ct : FT) (fe : FE) (s : TD → Ev → Option Ev) (env : Ev) : List TD → Option (List TD)
  | [] => some []
  | r :: rs => (s r env).bind fun e => (ct e).bind fun k => if k then (fe e).bind fun y => if okT y.1 then (lcL ct fe s env rs).map fun ys => y :: ys else none else lcL ct fe s env rs
@[simp] def sLc (fi : FI) (s : TD → Ev → Option Ev) (ct : FT) (fe : FE) (vs : List Nat) : FL := fun env => (fi env).bind fun items => if items.length ≤ lim then (lcL ct fe s (wipeE env vs) items).map fun ys => (tagL ys, ys.map (·.2)) else none
@[simp] def sYes : FT := fun _ => some true
theorem jts_nil : PTs X [] (tT (zx X cl) sYes) := by
  refine ⟨fun pins s σ H Q I ⟨env, w, r, e, k, hr, q⟩ => pts_nil.run pins s σ H Q I ?_⟩
  subst e
  cases hr
  exact q w (Gr.refl k.wf)
theorem jts_one (h : PT X c (tT (zx X cl) ct)) : PTs X [c] (tT (zx X cl) ct) := pts_one h
theorem wok_un {Z : Zc} {env : Ev} {σ : L2.St} {w : Wd} (k : Wok Z env σ w) (v : Nat) : Wok Z (env.put v .un) (σ.set v none) w := by
  refine ⟨k.wf, by simpa using k.len, fun j s e => ?_, fun j j' ds es p hne e1 e2 e3 => ?_, k.tb⟩
  · by_cases hj : v = j
    · subst hj
      have hl : v < (env.put v Sl.un).s.length := (List.getElem?_eq_some_iff.mp e).1
      rw [List.length_set] at hl
      rw [List.getElem?_set_self hl] at e
      cases e
      exact ⟨none, List.getElem?_set_self (by rw [k.len]; exact hl), trivial⟩
    · rw [List.getElem?_set_ne hj] at e
      obtain ⟨o, h1, h2⟩ := k.sl j s e
      exact ⟨o, by rw [List.getElem?_set_ne hj]; exact h1, h2⟩
  · have n1 : v ≠ j := fun q => by
      subst q
      have hl : v < (env.put v Sl.un).s.length := (List.getElem?_eq_some_iff.mp e1).1
      rw [List.length_set] at hl
      rw [List.getElem?_set_self hl] at e1
      cases e1
    have n2 : v ≠ j' := fun q => by
      subst q
      have hl : v < (env.put v Sl.un).s.length := (List.getElem?_eq_some_iff.mp e2).1
      rw [List.length_set] at hl
      rw [List.getElem?_set_self hl] at e2
      cases e2
    rw [List.getElem?_set_ne n1] at e1 e3
    rw [List.getElem?_set_ne n2] at e2 ⊢
    exact k.dj j j' ds es p hne e1 e2 e3
theorem wok_wipe {Z : Zc} {env : Ev} {σ : L2.St} {w : Wd} (k : Wok Z env σ w) : ∀ vs : List Nat, Wok Z (wipeE env vs) (wipe σ vs) w
  | [] => k
  | v :: vs => wok_un (wok_wipe k vs) v
theorem wipe_in {σ : L2.St} {i : Nat} : ∀ {vs : List Nat}, i ∈ vs → i < σ.length → (wipe σ vs)[i]? = some none
  | v :: vs, h, hl => by
    unfold wipe
    by_cases e : v = i
    · subst e
      rw [List.getElem?_set_self (by rw [wipe_length]; exact hl)]
    · rw [List.getElem?_set_ne e]
      rcases List.mem_cons.mp h with z | z
      · exact absurd z.symm e
      · exact wipe_in z hl
theorem wipe_eq {σ σ' : L2.St} {is vs : List Nat} (hl : σ'.length = σ.length) (hs : is.all (fun i => vs.contains i) = true) (h : ∀ n, n ∉ is → σ'[n]? = (wipe σ vs)[n]?) : wipe σ' vs = wipe σ vs := by
  apply List.ext_getElem?
  intro n
  by_cases hn : n ∈ vs
  · by_cases hlt : n < σ.length
    · rw [wipe_in hn (by rw [hl]; exact hlt), wipe_in hn hlt]
    · rw [List.getElem?_eq_none (by rw [wipe_length]; omega), List.getElem?_eq_none (by rw [wipe_length]; omega)]
  · rw [wipe_out hn, wipe_out hn]
    have : n ∉ is := fun z => hn (by
      have := List.all_eq_true.mp hs n z
      simpa using this)
    rw [h n this, wipe_out hn]
theorem lcL_len {ct : FT} {fe : FE} {s : TD → Ev → Option Ev} {env : Ev} : ∀ {items ys : List TD}, lcL ct fe s env items = some ys → ys.length ≤ items.length
  | [], ys, h => by cases h; exact Nat.le_refl _
  | r :: rs, ys, h => by
    obtain ⟨e, _, h⟩ := Option.bind_eq_some_iff.mp h
    obtain ⟨k, _, h⟩ := Option.bind_eq_some_iff.mp h
    cases k with
    | false => exact Nat.le_succ_of_le (lcL_len h)
    | true =>
      obtain ⟨y, _, h⟩ := Option.bind_eq_some_iff.mp h
      split at h
      · obtain ⟨zs, h2, rfl⟩ := Option.map_eq_some_iff.mp h
        exact Nat.succ_le_succ (lcL_len h2)
      · cases h
theorem RVs.app {Z : Zc} {w : Wd} : ∀ {rs : List TD} {vs : List V} {r : TD} {v : V}, RVs Z w rs vs → RV Z w r v → RVs Z w (rs ++ [r]) (vs ++ [v])
  | [], [], _, _, _, h => ⟨h, trivial⟩
  | _ :: _, _ :: _, _, _, ⟨h, t⟩, q => ⟨h, RVs.app t q⟩
  | [], _ :: _, _, _, h, _ => h.elim
  | _ :: _, [], _, _, h, _ => h.elim
theorem rvs_same {Z : Zc} {w : Wd} {H' : Hp} : ∀ {rs : List TD} {vs : List V}, rs.all (fun r => okT r.1) = true → RVs Z w rs vs → RVs Z ⟨w.N, w.B, H', w.m⟩ rs vs
  | [], [], _, _ => trivial
  | (t, d) :: rs, v :: vs, ha, ⟨h, t'⟩ => by
    simp only [List.all_cons, Bool.and_eq_true] at ha
    refine ⟨?_, rvs_same ha.2 t'⟩
    cases t with
    | N => exact h
    | B => exact h
    | T => exact absurd ha.1 (by decide)
    | O => exact absurd ha.1 (by decide)
  | [], _ :: _, _, h => h.elim
  | _ :: _, [], _, h => h.elim
theorem lc_rd {X : Cx} {cl : Str → Option Addr} {fi : FI} {is vs : List Nat} {s : TD → Ev → Option Ev} {ct : FT} {f : FE} (hsub : is.all (fun i => vs.contains i) = true) {σ : L2.St} {H : Hp} {Q : VK} (hh : tL (zx X cl) (sLc fi s ct f vs) σ H Q) :
    tLc (tI Gr (zx X cl) fi) (tG (zx X cl) is s) (tT (zx X cl) ct) (tE (zx X cl) f) vs σ H Q := by
  obtain ⟨env, w, t, ds, e, k, hr, ht, q⟩ := hh
  subst e
  obtain ⟨items, h3, h4⟩ := Option.bind_eq_some_iff.mp hr
  split at h4
  · rename_i hil
    obtain ⟨ys, h5, h6⟩ := Option.map_eq_some_iff.mp h4
    cases h6
    refine ⟨env, w, items, rfl, k, h3, fun J w1 g1 wk D hD => ?_⟩
    have k1 : Wok (zx X cl) (wipeE env vs) (wipe σ vs) w1 := wok_wipe (k.mono g1) vs
    -- the list at D is nobody's yet
    refine ⟨fun i m H' => ∃ w' acc rs zs, w'.H = H' ∧ Gr w1 w' ∧ w'.H D = some (.lst acc) ∧ w'.B D = none ∧ RVs (zx X cl) w' rs acc ∧ rs.all (fun r => okT r.1) = true ∧ m = items.length - i ∧ i ≤ items.length ∧ lcL ct f s (wipeE env vs) (items.drop i) = some zs ∧ rs ++ zs = ys,
      ⟨items.length, w1.put .T D (.lst []), [], [], ys, rfl, Gr.put g1.wf hD, upd_same, g1.wf.bh.free hD, trivial, rfl, rfl, Nat.zero_le _, h5, rfl⟩, ?_⟩
    rintro i m H' ⟨w', acc, rs, zs, rfl, g2, hA, hB, hR, hok, rfl, hi, hf, hys⟩
    by_cases hlt : i < items.length
    · obtain ⟨r, hr⟩ : ∃ r, items[i]? = some r := ⟨items[i], List.getElem?_eq_getElem hlt⟩
      have hd : items.drop i = r :: items.drop (i + 1) := by
        rw [List.drop_eq_getElem_cons hlt]
        rw [List.getElem?_eq_getElem hlt] at hr
        rw [Option.some.inj hr]
      rw [hd] at hf
      obtain ⟨e1, h7, h8⟩ := Option.bind_eq_some_iff.mp hf
      obtain ⟨kk, h9, h10⟩ := Option.bind_eq_some_iff.mp h8
      obtain ⟨go, yl⟩ := wk.go i r w' g2 hr
      refine .inr ⟨go, fun H2 => ∃ m', m' < items.length - i ∧ ∃ w' acc rs zs, w'.H = H2 ∧ Gr w1 w' ∧ w'.H D = some (.lst acc) ∧ w'.B D = none ∧ RVs (zx X cl) w' rs acc ∧ rs.all (fun r => okT r.1) = true ∧ m' = items.length - (i + 1) ∧ i + 1 ≤ items.length ∧ lcL ct f s (wipeE env vs) (items.drop (i + 1)) = some zs ∧ rs ++ zs = ys,
        fun _ z => z, fun x H2 hy => ?_⟩
      obtain ⟨w2, g3, rfl, r2⟩ := yl x H2 hy
      refine ⟨wipeE env vs, w2, r, e1, rfl, (k1.mono g2).mono g3, r2, h7, fun σ3 w3 g4 k3 f3 l3 => ⟨?_, e1, w3, kk, rfl, k3, h9, fun w4 g5 => ?_⟩⟩
      · have hl : σ3.length = σ.length := l3.trans (wipe_length σ vs)
        exact wipe_eq hl hsub f3
      · have hA3 : w4.H D = some (.lst acc) := ((g3.trans g4).trans g5).h _ _ hA
        have hB3 : w4.B D = none := own_mono ((g3.trans g4).trans g5) hA hB
        have hR3 := hR.mono ((g3.trans g4).trans g5)
        cases kk with
        | false => exact ⟨_, by omega, w4, acc, rs, zs, rfl, g2.trans ((g3.trans g4).trans g5), hA3, hB3, hR3, hok, rfl, hlt, h10, hys⟩
        | true =>
          obtain ⟨y, h11, h12⟩ := Option.bind_eq_some_iff.mp h10
          split at h12
          · rename_i hy1
            obtain ⟨zs', h13, rfl⟩ := Option.map_eq_some_iff.mp h12
            refine ⟨e1, w4, y, rfl, k3.mono g5, h11, fun v w5 g6 r5 => ⟨acc, g6.h _ _ hA3, ?_, _, by omega, ⟨w5.N, w5.B, upd w5.H D (.lst (acc ++ [v])), w5.m⟩, acc ++ [v], rs ++ [y], zs', rfl, ?_, upd_same, own_mono g6 hA3 hB3, ?_, ?_, rfl, hlt, h13, by rw [List.append_assoc]; exact hys⟩⟩
            · have l1 : acc.length = rs.length := hR.length
              have l2 : ys.length ≤ items.length := lcL_len h5
              have l3 : rs.length ≤ ys.length := by rw [← hys]; simp
              exact lim_lt (by omega)
            · have gg := (g2.trans ((g3.trans g4).trans g5)).trans g6
              exact ⟨⟨gg.wf.nb, same_up1 gg.wf.bh (own_mono g6 hA3 hB3)⟩, gg.n, gg.b, same_up1 gg.h hD, gg.fn, gg.fb, gg.m⟩
            · refine RVs.app (rvs_same hok (hR3.mono g6)) ?_
              obtain ⟨t, d⟩ := y
              cases t with
              | N => exact r5
              | B => exact r5
              | T => exact Bool.noConfusion hy1
              | O => exact Bool.noConfusion hy1
            · rw [List.all_append, hok]
              simpa using hy1
          · cases h12
    · have e : i = items.length := by omega
      subst e
      rw [List.drop_length] at hf
      cases hf
      rw [List.append_nil] at hys
      subst hys
      refine .inl ⟨wk.stop w' g2, ?_⟩
      exact q D acc w' (g1.trans g2) (g1.h.free hD) hA hB (rvs_items g2.wf hR)
  · cases h4
end
end Vf
namespace Vf
open PySem L2
theorem XS.blk {X : Cx} (h : XS X) {s : Shared} {H : Hp} {scope : Scope} {ce : Env} {fp : List Addr} : XS (X.blk s H scope ce fp) := ⟨h.calm, h.nd, h.hu⟩
section
variable {X : Cx} {cl : Str → Option Addr} {a b c e tg iter elt : Expr} {es ifs : List Expr} {f g h : FE} {fa fk : FA} {fl : FL} {ct : FT} {A B : FS} {pos : Pos} {fi : FI} {is js : List Nat} {s : TD → Ev → Option Ev} {scope : Scope} {own : List (Str × Nat)}
theorem jl_lc (own : List (Str × Nat)) (hX : XS X) (hi : PI X tg iter (tI Gr (zx X cl) fi)) (ok : blkC X.N X.env.scope scope own = true)
    (hg : ∀ (s' : Shared) (H : Hp) (C : Addr) (l : List (Str × Addr)) (fp : List Addr), PG (X.blk s' H scope (compEnvC scope l C X.env) fp) tg (tG (zx X cl) is s))
    (ht : ∀ (s' : Shared) (H : Hp) (C : Addr) (l : List (Str × Addr)) (fp : List Addr), PTs (X.blk s' H scope (compEnvC scope l C X.env) fp) ifs (tT (zx X cl) ct))
    (he : ∀ (s' : Shared) (H : Hp) (C : Addr) (l : List (Str × Addr)) (fp : List Addr), PE (X.blk s' H scope (compEnvC scope l C X.env) fp) elt (tE (zx X cl) f))
    (hsub : is.all (fun i => (own.map (·.2)).contains i) = true := by rfl) (hs : ∀ x, foldedSetIterable iter X.env x = pure x := by intro _; rfl) :
    PE X (.ListComp elt [⟨tg, iter, ifs, 0⟩] scope pos) (tL (zx X cl) (sLc fi s ct f (own.map (·.2)))) :=
  pe_w (pe_lc hX.calm hX.nd hi (blkOk_by ok) hg ht he hs) fun _ _ _ hh => lc_rd hsub hh
theorem js_ownLc (i : Nat) (own : List (Str × Nat)) {y : Str} {py spos : Pos} (hX : XS X) (hi : PI X tg iter (tI Gr (zx X cl) fi)) (ok : blkC X.N X.env.scope scope own = true)
    (hg : ∀ (s' : Shared) (H : Hp) (C : Addr) (l : List (Str × Addr)) (fp : List Addr), PG (X.blk s' H scope (compEnvC scope l C X.env) fp) tg (tG (zx X cl) is s))
    (ht : ∀ (s' : Shared) (H : Hp) (C : Addr) (l : List (Str × Addr)) (fp : List Addr), PTs (X.blk s' H scope (compEnvC scope l C X.env) fp) ifs (tT (zx X cl) ct))
    (he : ∀ (s' : Shared) (H : Hp) (C : Addr) (l : List (Str × Addr)) (fp : List Addr), PE (X.blk s' H scope (compEnvC scope l C X.env) fp) elt (tE (zx X cl) f))
    (hy : X.N[i]? = some y := by rfl) (hyl : X.env.scope.names.lookup y = some .local := by rfl)
    (hsw : swapsWith (.ListComp elt [⟨tg, iter, ifs, 0⟩] scope pos) (some (.Name y py)) spos.line X.env = pure true := by exact sw_true rfl rfl rfl (by decide +kernel))
    (hsub : is.all (fun i => (own.map (·.2)).contains i) = true := by rfl) (hs : ∀ x, foldedSetIterable iter X.env x = pure x := by intro _; rfl) :
    PS X (.Assign [.Name y py] (.ListComp elt [⟨tg, iter, ifs, 0⟩] scope pos) spos) (tS (zx X cl) (sOwn i (sLc fi s ct f (own.map (·.2))))) :=
  ps_w (ps_setLc hX.calm hX.nd hy hyl hsw hi (blkOk_by ok) hg ht he hs) fun _ _ _ hh => lc_rd hsub (sOwn_rd hh)
theorem sSet_rd {i : Nat} {D : Ends} {σ : L2.St} {H : Hp} {Z : Zc} (hh : tS Z (sSet i f) D σ H) : tE Z f σ H fun v H1 => D.nx (σ.set i (some v)) H1 := by
  obtain ⟨env, w, out, e, k, hr, q⟩ := hh
  subst e
  obtain ⟨r, h3, h4⟩ := Option.bind_eq_some_iff.mp hr
  obtain ⟨e', h5, rfl⟩ := Option.map_eq_some_iff.mp h4
  exact ⟨env, w, r, rfl, k, h3, fun v w1 g1 r1 => q _ w1 (g1.gs k.wf) (setV_ok (k.mono g1) h5 r1)⟩
theorem sL_rd {σ : L2.St} {H : Hp} {Q : VK} {Z : Zc} (hh : tE Z (sL fl) σ H Q) : tL Z fl σ H Q := by
  obtain ⟨env, w, r, e, k, hr, q⟩ := hh
  obtain ⟨⟨t, ds⟩, h1, h2⟩ := Option.bind_eq_some_iff.mp hr
  dsimp only at h2
  split at h2
  · cases h2
  · rename_i ht
    cases h2
    refine ⟨env, w, t, ds, e, k, h1, ht, fun p vs w' g1 hp hH hB r => ?_⟩
    obtain ⟨w2, g2, e2, r2⟩ := adopt g1 ht hp hH hB r
    rw [← e2]
    exact q _ w2 g2 r2
theorem js_setLc (i : Nat) (own : List (Str × Nat)) {y : Str} {py spos : Pos} (hX : XS X) (hi : PI X tg iter (tI Gr (zx X cl) fi)) (ok : blkC X.N X.env.scope scope own = true)
    (hg : ∀ (s' : Shared) (H : Hp) (C : Addr) (l : List (Str × Addr)) (fp : List Addr), PG (X.blk s' H scope (compEnvC scope l C X.env) fp) tg (tG (zx X cl) is s))
    (ht : ∀ (s' : Shared) (H : Hp) (C : Addr) (l : List (Str × Addr)) (fp : List Addr), PTs (X.blk s' H scope (compEnvC scope l C X.env) fp) ifs (tT (zx X cl) ct))
    (he : ∀ (s' : Shared) (H : Hp) (C : Addr) (l : List (Str × Addr)) (fp : List Addr), PE (X.blk s' H scope (compEnvC scope l C X.env) fp) elt (tE (zx X cl) f))
    (hy : X.N[i]? = some y := by rfl) (hyl : X.env.scope.names.lookup y = some .local := by rfl)
    (hsw : swapsWith (.ListComp elt [⟨tg, iter, ifs, 0⟩] scope pos) (some (.Name y py)) spos.line X.env = pure true := by exact sw_true rfl rfl rfl (by decide +kernel))
    (hsub : is.all (fun i => (own.map (·.2)).contains i) = true := by rfl) (hs : ∀ x, foldedSetIterable iter X.env x = pure x := by intro _; rfl) :
    PS X (.Assign [.Name y py] (.ListComp elt [⟨tg, iter, ifs, 0⟩] scope pos) spos) (tS (zx X cl) (sSet i (sL (sLc fi s ct f (own.map (·.2)))))) :=
  ps_w (ps_setLc hX.calm hX.nd hy hyl hsw hi (blkOk_by ok) hg ht he hs) fun _ _ _ hh => lc_rd hsub (sL_rd (sSet_rd hh))
/-! ### calls -/
def dn (r : TD) : TD := match r.1 with | .N => (.N, r.2) | _ => nm (.B, r.2)
def up (r : TD) : TD := match r.1 with | .N => (.N, r.2) | _ => nm (.T, r.2)
@[simp] def sCall (g : List TD → Option TD) (fa : FA) : FE := fun env => (fa env).bind fun rs => (g (rs.map dn)).map up
/-- the promise of a def: what it is worth, by g; it keeps all that stands -/
def spG (Z : Zc) (g : List TD → Option TD) : Sp := fun vs H Q _ => ∃ N rs r, Same N H ∧ RVs Z ⟨N, H, H, []⟩ rs vs ∧ rs.all (fun r => okT r.1) = true ∧ g rs = some r ∧ okT r.1 = true ∧ ∀ v w', Gr ⟨N, H, H, []⟩ w' → RV Z w' r v → Q v w'.H
theorem nm_ok {t : Tg} {d : D} (h : okT t = true) : okT (nm (t, d)).1 = true := by cases d <;> first | rfl | exact h
theorem dn_ok (r : TD) : okT (dn r).1 = true := by
  obtain ⟨t, d⟩ := r
  cases t <;> first | rfl | exact nm_ok rfl
theorem dn_rv {Z : Zc} {w : Wd} (hw : Wf w) {r : TD} {v : V} (h : RV Z w r v) : RV Z ⟨w.N, w.H, w.H, []⟩ (dn r) v := by
  have wf : Wf ⟨w.N, w.H, w.H, []⟩ := ⟨hw.nh, .refl _⟩
  have hb : RV Z ⟨w.N, w.H, w.H, []⟩ (.B, r.2) v := h.top hw
  obtain ⟨t, d⟩ := r
  cases t with
  | N => exact h
  | B => exact RV.nm wf hb
  | T => exact RV.nm wf hb
  | O => exact RV.nm wf hb
theorem dn_rvs {Z : Zc} {w : Wd} (hw : Wf w) : ∀ {rs : List TD} {vs : List V}, RVs Z w rs vs → RVs Z ⟨w.N, w.H, w.H, []⟩ (rs.map dn) vs
  | [], [], _ => trivial
  | _ :: _, _ :: _, ⟨h, t⟩ => ⟨dn_rv hw h, dn_rvs hw t⟩
  | [], _ :: _, h => h.elim
  | _ :: _, [], h => h.elim
/-- back at the caller -/
theorem up_rv {Z : Zc} {w w' : Wd} (hw : Wf w) (g : Gr ⟨w.N, w.H, w.H, []⟩ w') {r : TD} {v : V} (ho : okT r.1 = true) (h : RV Z w' r v) : ∃ w2, Gr w w2 ∧ w2.H = w'.H ∧ RV Z w2 (up r) v := by
  have key : ∀ x o, w'.N x = some o → w.B x ≠ none → w.B x = some o := fun x o hx hb => by
    cases q : w.B x with
    | none => exact (hb q).elim
    | some u =>
      have h1 := g.h _ _ (hw.bh _ _ q)
      have h2 := g.wf.nh _ _ hx
      exact congrArg some (Option.some.inj (h1.symm.trans h2))
  let B2 : Hp := fun x => match w.B x with | some o => some o | none => w'.N x
  have b1 : Same w.B B2 := fun x o e => by show (match w.B x with | some o => some o | none => w'.N x) = _; rw [e]
  have b2 : Same w'.N B2 := fun x o e => by
    show (match w.B x with | some o => some o | none => w'.N x) = _
    cases q : w.B x with
    | none => exact e
    | some u => exact (q.symm.trans (key x o e (by rw [q]; exact fun z => nomatch z)))
  have b3 : Same B2 w'.H := fun x o e => by
    have e' : (match w.B x with | some o => some o | none => w'.N x) = some o := e
    cases q : w.B x with
    | none =>
      rw [q] at e'
      exact g.wf.nh _ _ e'
    | some u =>
      rw [q] at e'
      cases e'
      exact g.h _ _ (hw.bh _ _ q)
  have b4 : ∀ x, B2 x ≠ none → w.B x ≠ none ∨ w.H x = none := fun x e => by
    cases q : w.B x with
    | some u => exact .inl (fun z => nomatch z)
    | none =>
      have e' : w'.N x ≠ none := fun z => e (by show (match w.B x with | some o => some o | none => w'.N x) = _; rw [q]; exact z)
      rcases g.fn x e' with z | z
      · cases q2 : w.N x with
        | none => exact (z q2).elim
        | some u =>
          have := hw.nb _ _ q2
          rw [q] at this
          cases this
      · exact .inr z
  have gg : Gr w ⟨w'.N, B2, w'.H, w.m⟩ := ⟨⟨b2, b3⟩, g.n, b1, g.h, g.fn, b4, rfl⟩
  refine ⟨⟨w'.N, B2, w'.H, w.m⟩, gg, rfl, ?_⟩
  have ht : RV Z ⟨w'.N, B2, w'.H, w.m⟩ (.T, r.2) v := h.top g.wf
  obtain ⟨t, d⟩ := r
  cases t with
  | N => exact h
  | B => exact RV.nm gg.wf ht
  | T => exact RV.nm gg.wf ht
  | O => exact RV.nm gg.wf ht
variable {k : Nat} {fad : Addr} {fd : FuncData} {ps : List Str} {gg : List TD → Option TD}
/-- a def as its callers see it -/
structure Cl (X : Cx) (cl : Str → Option Addr) (x : Str) (ps : List Str) (g : List TD → Option TD) : Prop where
  ex : ∃ k f fd, FnOk X.prog X.w X.K X.mg X.base CX0 k f fd ps (spG (zx X cl) g) ∧ Room k X.A ∧ X.mg x = some (.ref f) ∧ PySem.W.keepIn X.K (.ref f) = true ∧ Binds X.K fd ps []
  ok : ∀ rs r, g rs = some r → okT r.1 = true
theorem sCall_rd {σ : L2.St} {H : Hp} {Q : VK} {Z : Zc} {E : XK} (hok : ∀ rs r, gg rs = some r → okT r.1 = true) (hh : tE Z (sCall gg fa) σ H Q) : tCall (spG Z gg) [] E (tA Z fa) σ H Q := by
  obtain ⟨env, w, r, e, k, hr, q⟩ := hh
  subst e
  obtain ⟨rs, h1, h2⟩ := Option.bind_eq_some_iff.mp hr
  obtain ⟨r0, h3, rfl⟩ := Option.map_eq_some_iff.mp h2
  refine ⟨env, w, rs, rfl, k, h1, fun vs w1 g1 r1 => ?_⟩
  show spG Z gg (vs ++ []) w1.H Q E
  rw [List.append_nil]
  refine ⟨w1.N, rs.map dn, r0, g1.wf.nh, dn_rvs g1.wf r1, ?_, h3, hok _ _ h3, fun v w' g2 r2 => ?_⟩
  · rw [List.all_map, List.all_eq_true]
    exact fun x _ => dn_ok x
  · obtain ⟨w2, g3, e3, r3⟩ := up_rv g1.wf g2 (hok _ _ h3) r2
    rw [← e3]
    exact q v w2 (g1.trans g3) r3
theorem je_call {x : Str} {p : Pos} (C : Cl X cl x ps gg) (ha : PA X (a :: es) (tA (zx X cl) fa)) (hg : Gl X x := by rfl) (hdb : (x == ("__debug__" : Str)) = false := by decide)
    (he : starEach (a :: es) X.env = (false, eval a X.env) :: starEach es X.env := by rfl) (hpl : (backTo pos (starEach es X.env)).any (·.1) = false := by rfl) : PE X (.Call (.Name x p) (a :: es) [] pos) (tE (zx X cl) (sCall gg fa)) := by
  obtain ⟨k, f, fd, F, hr, hm, hk, hb⟩ := C.ex
  exact pe_w (pe_call F hr hg hm hk hb .nil pass0 ha hdb he hpl) fun _ _ _ hh => sCall_rd C.ok hh
theorem je_call0 {x : Str} {p : Pos} (C : Cl X cl x ps gg) (hg : Gl X x := by rfl) (hdb : (x == ("__debug__" : Str)) = false := by decide) : PE X (.Call (.Name x p) [] [] pos) (tE (zx X cl) (sCall gg sNil)) := by
  obtain ⟨k, f, fd, F, hr, hm, hk, hb⟩ := C.ex
  refine pe_w (pe_call0 F hr hg hm hk hb .nil pass0 hdb) fun σ H Q hh => ?_
  obtain ⟨env, w, rs, e, kk, h1, q⟩ := sCall_rd (E := E0) C.ok hh
  subst e
  cases h1
  exact q [] w (Gr.refl kk.wf) trivial
end
/-! ### a def's promise, by its body -/
def fin (o : Out) : Option TD := match o with
  | .rt (.N, d) => some (.N, d)
  | .rt (.B, d) => some (.B, d)
  | .rt (.O, d) => some (.N, d)
  | .rth (.pu d) _ => some (.N, d)
  | .nx _ => some (.N, .non)
  | _ => none
def env0 (n : Nat) (rs : List TD) : Ev := ⟨rs.map (fun r => .val r.1 r.2) ++ List.replicate (n - rs.length) .un, []⟩
theorem wok_start {Z : Zc} {N : Hp} {H : Hp} (hs : Same N H) {names : List Str} {rs : List TD} {vs : List V} (h : RVs Z ⟨N, H, H, []⟩ rs vs) (ho : rs.all (fun r => okT r.1) = true) (hl : rs.length ≤ names.length) : Wok Z (env0 names.length rs) (L2.start names vs) ⟨N, H, H, []⟩ := by
  have hvl := h.length
  refine ⟨⟨hs, .refl _⟩, ?_, fun i s e => ?_, fun i j ds es p hne e1 e2 e3 => ?_, ⟨rfl, List.nodup_nil, fun a h => (by cases h), fun n M h => (by simp [env0] at h)⟩⟩
  · unfold L2.start env0
    simp only [List.length_append, List.length_map, List.length_replicate]
    omega
  · have aux : ∀ (rs : List TD) (vs : List V) (i : Nat) (r : TD), RVs Z ⟨N, H, H, []⟩ rs vs → rs[i]? = some r → ∃ v, vs[i]? = some v ∧ RV Z ⟨N, H, H, []⟩ r v := by
      intro rs
      induction rs with
      | nil => intro vs i r _ e; simp at e
      | cons r0 rs ih =>
        intro vs i r h e
        match vs, h with
        | v :: vs, h =>
          cases i with
          | zero => simp at e; subst e; exact ⟨v, rfl, h.1⟩
          | succ i => simpa using ih vs i r h.2 (by simpa using e)
    unfold env0 at e
    by_cases hi : i < rs.length
    · rw [List.getElem?_append_left (by rw [List.length_map]; exact hi), List.getElem?_map] at e
      obtain ⟨r, h1, rfl⟩ := Option.map_eq_some_iff.mp e
      obtain ⟨v, h2, h3⟩ := aux rs vs i r h h1
      refine ⟨some v, ?_, v, rfl, ?_⟩
      · unfold L2.start
        rw [List.getElem?_append_left (by rw [List.length_map]; omega), List.getElem?_map, h2]
        rfl
      · have hr := List.all_eq_true.mp ho r (List.mem_of_getElem? h1)
        obtain ⟨t, d⟩ := r
        cases t with
        | N => exact .inl ⟨rfl, h3⟩
        | B => exact .inr ⟨rfl, h3⟩
        | T => exact Bool.noConfusion hr
        | O => exact Bool.noConfusion hr
    · rw [List.getElem?_append_right (by rw [List.length_map]; omega)] at e
      have e2 := List.mem_of_getElem? e
      have e3 := List.eq_of_mem_replicate e2
      subst e3
      have hlt : i - (rs.map fun r => Sl.val r.1 r.2).length < names.length - rs.length := by
        have := (List.getElem?_eq_some_iff.mp e).1
        simpa using this
      rw [List.length_map] at hlt
      refine ⟨none, ?_, trivial⟩
      unfold L2.start
      rw [List.getElem?_append_right (by rw [List.length_map]; omega), List.length_map, List.getElem?_replicate]
      rw [if_pos (by omega)]
  · unfold env0 at e1
    rcases List.mem_append.mp (List.mem_of_getElem? e1) with z | z
    · obtain ⟨r, _, q⟩ := List.mem_map.mp z
      cases q
    · cases List.eq_of_mem_replicate z
section
variable {P : Program} {w : World} {K : PySem.W.Frag} {mg : Str → Option Value} {base : Heap} {cl : Str → Option Addr}
theorem ok_def {x qual : Str} {st : Stmt} {f : Addr} {fd : FuncData} {N ps : List Str} {k : Nat} {g : List TD → Option TD} {B : FS} (F : Fun K x qual st f fd) (S : FnScope N ps (defScope st)) (har : ∀ rs r, g rs = some r → rs.length = ps.length)
    (hb : ∀ (cdv : Value) (A : Around) (outer : List Env) (s : Shared) (H : Hp) (E : XK), Room k (A.deeper (PyProof.Rows.envOfC qual (defScope st) s.heap.objs.size f cdv)) → XS (cxOf CX0 P w K mg base N qual (defScope st) f cdv A outer s H E).nox →
      PSs (cxOf CX0 P w K mg base N qual (defScope st) f cdv A outer s H E).nox (defBody st) (tS ⟨K, cl⟩ B))
    (hsem : ∀ rs r, rs.all (fun r => okT r.1) = true → g rs = some r → (B (env0 N.length rs)).bind fin = some r) : FnOk P w K mg base CX0 (k + 1) f fd ps (spG ⟨K, cl⟩ g) := by
  refine F.ok S (fun vs H Q E h => ?_) (fun cdv A outer s H vs Q E hr h => ?_)
  · obtain ⟨N', rs, r, _, h1, _, h2, _⟩ := h
    rw [h1.length, har _ _ h2]
  · obtain ⟨N', rs, r, h0, h1, h2, h3, h4, q⟩ := h
    have hX : XS (cxOf CX0 P w K mg base N qual (defScope st) f cdv A outer s H E).nox := ⟨rfl, S.nd, by have := hr.un; show (A.deeper _).units + 65 < cLine; omega⟩
    refine ⟨_, hb cdv A outer s H E hr hX, ?_⟩
    obtain ⟨out, e1, e2⟩ := Option.bind_eq_some_iff.mp (hsem rs r h2 h3)
    have hle : rs.length ≤ N.length := by
      have := congrArg List.length S.pre
      rw [List.length_take] at this
      have := har _ _ h3
      omega
    refine ⟨env0 N.length rs, ⟨N', H, H, []⟩, out, rfl, wok_start h0 h1 h2 hle, e1, ?_⟩
    cases out with
    | nx e' =>
      cases e2
      exact fun σ' w' gs k' => q .non ⟨w'.N, w'.B, w'.H, []⟩ gs.gr (nN .non rfl)
    | bk e' => cases e2
    | ct e' => cases e2
    | rth x T =>
      cases x with
      | ob n => cases e2
      | pu d =>
        cases e2
        exact fun v w' gs hv _ => q v ⟨w'.N, w'.B, w'.H, []⟩ gs.gr hv
    | rt r0 =>
      obtain ⟨t, d⟩ := r0
      cases t with
      | N =>
        cases e2
        exact fun v w' gs rv => q v ⟨w'.N, w'.B, w'.H, []⟩ gs.gr rv
      | B =>
        cases e2
        exact fun v w' gs rv => q v ⟨w'.N, w'.B, w'.H, []⟩ gs.gr rv
      | T => cases e2
      | O =>
        cases e2
        intro v w' gs rv
        obtain ⟨p, vs', ds, rfl, rfl, a1, a2, a3⟩ := rv
        obtain ⟨w2, g2, e3, r3⟩ := adopt (Z := ⟨K, cl⟩) (t := .N) gs.gr (by decide) (gs.b.free a2) a1 a2 a3
        show Q _ w'.H
        rw [← e3]
        exact q _ w2 g2 r3
end
/-- where a def of the module stands -/
structure Df (K : PySem.W.Frag) (mg : Str → Option Value) (x : Str) (st : Stmt) (f : Addr) (fd : FuncData) : Prop where
  fn : Fun K x x st f fd
  gm : mg x = some (.ref f)
end Vf
namespace Vf
open PySem L2
/-- a def as its callers see it: by name, at most level k, worth g -/
structure Ca (P : Program) (w : World) (K : PySem.W.Frag) (mg : Str → Option Value) (base : Heap) (cl : Str → Option Addr) (k : Nat) (x : Str) (ps : List Str) (g : List TD → Option TD) : Prop where
  ex : ∃ f fd, FnOk P w K mg base CX0 k f fd ps (spG ⟨K, cl⟩ g) ∧ mg x = some (.ref f) ∧ PySem.W.keepIn K (.ref f) = true ∧ Binds K fd ps [] ∧
    ∀ (s : Shared) (us : List Value), us.length = ps.length → BindsTo s fd ⟨[], ps.zip us⟩ (ps.zip us)
  ok : ∀ rs r, g rs = some r → okT r.1 = true
theorem Ca.mono {P : Program} {w : World} {K : PySem.W.Frag} {mg : Str → Option Value} {base : Heap} {cl : Str → Option Addr} {j k : Nat} {x : Str} {ps : List Str} {g : List TD → Option TD} (C : Ca P w K mg base cl j x ps g) (h : j ≤ k) : Ca P w K mg base cl k x ps g := by
  obtain ⟨f, fd, F, r⟩ := C.ex
  exact ⟨⟨f, fd, F.mono h, r⟩, C.ok⟩
section
variable {X : Cx} {cl : Str → Option Addr} {a b c e : Expr} {es : List Expr} {kws : List Keyword} {fa : FA} {pos : Pos} {ps : List Str} {gg : List TD → Option TD} {k j : Nat}
theorem jc {x : Str} {p : Pos} (C : Ca X.prog X.w X.K X.mg X.base cl k x ps gg) (hr : Room j X.A) (ha : PA X (a :: es) (tA (zx X cl) fa)) (hkj : k ≤ j := by decide) (hg : Gl X x := by rfl) (hdb : (x == ("__debug__" : Str)) = false := by decide)
    (he : starEach (a :: es) X.env = (false, eval a X.env) :: starEach es X.env := by rfl) (hpl : (backTo pos (starEach es X.env)).any (·.1) = false := by rfl) : PE X (.Call (.Name x p) (a :: es) [] pos) (tE (zx X cl) (sCall gg fa)) := by
  obtain ⟨f, fd, F, hm, hk, hb, _⟩ := C.ex
  exact pe_w (pe_call F (hr.mono hkj) hg hm hk hb .nil pass0 ha hdb he hpl) fun _ _ _ hh => sCall_rd C.ok hh
theorem jc0 {x : Str} {p : Pos} (C : Ca X.prog X.w X.K X.mg X.base cl k x ps gg) (hr : Room j X.A) (hkj : k ≤ j := by decide) (hg : Gl X x := by rfl) (hdb : (x == ("__debug__" : Str)) = false := by decide) : PE X (.Call (.Name x p) [] [] pos) (tE (zx X cl) (sCall gg sNil)) := by
  obtain ⟨f, fd, F, hm, hk, hb, _⟩ := C.ex
  refine pe_w (pe_call0 F (hr.mono hkj) hg hm hk hb .nil pass0 hdb) fun σ H Q hh => ?_
  obtain ⟨env, w, rs, e, kk, h1, q⟩ := sCall_rd (E := E0) C.ok hh
  subst e
  cases h1
  exact q [] w (Gr.refl kk.wf) trivial
theorem jk_nil : PK X [] (tA (zx X cl) sNil) := ⟨fun pos pins s σ H Q I ⟨env, w, r, e, k, hr, q⟩ => pk_nil.run pos pins s σ H Q I (by
  subst e
  cases hr
  exact q [] w (Gr.refl k.wf) trivial)⟩
theorem jk_cons {nm : Option Str} {kpos : Pos} {f : FE} (ha : PE X e (tE (zx X cl) f)) (hr : PK X kws (tA (zx X cl) fa)) : PK X (⟨nm, e, kpos⟩ :: kws) (tA (zx X cl) (sCons f fa)) := by
  refine ⟨fun pos pins s σ H Q I ⟨env, w, r, e, k, h, q⟩ => (pk_cons ha hr).run pos pins s σ H Q I ?_⟩
  subst e
  obtain ⟨x, hx, h⟩ := Option.bind_eq_some_iff.mp h
  obtain ⟨xs, hxs, h⟩ := Option.bind_eq_some_iff.mp h
  cases h
  exact ⟨env, w, x, rfl, k, hx, fun v w1 g1 r1 => ⟨env, w1, xs, rfl, k.mono g1, hxs, fun vs w2 g2 r2 => q _ w2 (g1.trans g2) ⟨r1.mono g2, r2⟩⟩⟩
/-- f(a = .., b = ..), in the parameters' own order -/
theorem jck {x : Str} {p : Pos} (C : Ca X.prog X.w X.K X.mg X.base cl k x ps gg) (hr : Room j X.A) (hkw : PK X kws (tA (zx X cl) fa)) (hks : (backToKw pos (keywordEach kws X.env)).filterMap (·.1) = ps := by rfl) (hkj : k ≤ j := by decide) (hg : Gl X x := by rfl)
    (hdb : (x == ("__debug__" : Str)) = false := by decide) (hall : (backToKw pos (keywordEach kws X.env)).all (·.1.isSome) = true := by rfl)
    (hpl : ((backTo pos (starEach [] X.env)).any (·.1) || (backToKw pos (keywordEach kws X.env)).any (·.1.isNone)) = false := by rfl) : PE X (.Call (.Name x p) [] kws pos) (tE (zx X cl) (sCall gg fa)) := by
  obtain ⟨f, fd, F, hm, hk, _, hb⟩ := C.ex
  refine ⟨fun pins s σ H Q I hh => ?_⟩
  refine wpAny_Call_Name_kw (ld_glob I hg hm ?_ hdb)
  refine PySem.W.callWith_KW0 (h₀ := X.base) I.ok.mod.kin hk hall (thn (hkw.run pos pins s σ H _ I (sCall_rd (E := E0) C.ok hh)) fun us s1 ⟨vs, H1, I1, r, q⟩ => ⟨I1.kIn, ?_⟩) hpl
  rw [hks]
  have q : spG (zx X cl) gg (vs ++ []) H1 Q E0 := q
  rw [List.append_nil] at q
  have hl := F.len _ _ _ _ q
  have r2 : us.length = ps.length := by rw [← r.length]; exact hl
  refine wpAny_call (codeAny_mono (F.run X.A X.stack s1 H1 ⟨[], ps.zip us⟩ us vs Q E0 (hr.mono hkj) I1.env0 (hb s1 us r2) r q) fun rr s' hq => ?_)
  cases rr with
  | error e => exact hq.elim
  | ok fl =>
    cases fl with
    | ret u => exact I1.after hq
    | next => exact False.elim hq
    | brk => exact False.elim hq
    | cont => exact False.elim hq
end
section
variable {P : Program} {w : World} {K : PySem.W.Frag} {mg : Str → Option Value} {base : Heap} {cl : Str → Option Addr}
theorem ca_def {x : Str} {st : Stmt} {f : Addr} {fd : FuncData} {N ps : List Str} {k : Nat} {g : List TD → Option TD} {B : FS} (D : Df K mg x st f fd) (S : FnScope N ps (defScope st)) (har : ∀ rs r, g rs = some r → rs.length = ps.length)
    (hok : ∀ rs r, g rs = some r → okT r.1 = true)
    (hbi : Binds K fd ps []) (hbk : ∀ (s : Shared) (us : List Value), us.length = ps.length → BindsTo s fd ⟨[], ps.zip us⟩ (ps.zip us))
    (hb : ∀ (cdv : Value) (A : Around) (outer : List Env) (s : Shared) (H : Hp) (E : XK), Room k (A.deeper (PyProof.Rows.envOfC x (defScope st) s.heap.objs.size f cdv)) → XS (cxOf CX0 P w K mg base N x (defScope st) f cdv A outer s H E).nox →
      PSs (cxOf CX0 P w K mg base N x (defScope st) f cdv A outer s H E).nox (defBody st) (tS ⟨K, cl⟩ B))
    (hsem : ∀ rs r, rs.all (fun r => okT r.1) = true → g rs = some r → (B (env0 N.length rs)).bind fin = some r) : Ca P w K mg base cl (k + 1) x ps g :=
  ⟨⟨f, fd, ok_def D.fn S har hb hsem, D.gm, D.fn.kp, hbi, hbk⟩, hok⟩
/-- how keywords bind: h is «fun _ _ _ _ _ _ us hl => match us, hl with | [_, _], _ => rfl» -/
theorem kb_of {x qual : Str} {st : Stmt} {f : Addr} {fd : FuncData} {ps : List Str} (F : Fun K x qual st f fd)
    (h : ∀ (kV doc pm : Value) (an : Option Addr) (cdv ct : Value) (us : List Value), us.length = ps.length → bindArgs (PySem.W.fnOf x qual (defArgs st) (defBody st) (defScope st) .none kV doc pm an cdv ct) ⟨[], ps.zip us⟩ = pure (ps.zip us)) :
    ∀ (s : Shared) (us : List Value), us.length = ps.length → BindsTo s fd ⟨[], ps.zip us⟩ (ps.zip us) := by
  obtain ⟨oc, od, kV, doc, pm, an, cdv, ct, osl, rfl, lk, hcd⟩ := F.ex
  exact fun s us hl => .of_eq (h kV doc pm an cdv ct us hl)
end
/-- the law's own worth -/
def scrOf (ns : List Int) : TD := (.B, .scr (ns.map D.int))
def LawOk (ns : List Int) : Prop := ns.length ≤ 63 ∧ ∀ z ∈ ns, Builtin.Int.intBits z ≤ 1048576
open Classical in
noncomputable def gLaw (rs : List TD) : Option TD := if ∃ ns, LawOk ns ∧ rs = [scrOf ns] then some (.N, .bl true) else none
theorem gLaw_ok (rs : List TD) (r : TD) (h : gLaw rs = some r) : okT r.1 = true := by
  unfold gLaw at h
  split at h
  · cases h; rfl
  · cases h
theorem gLaw_len (rs : List TD) (r : TD) (h : gLaw rs = some r) : rs.length = 1 := by
  unfold gLaw at h
  split at h
  · rename_i hh
    obtain ⟨ns, _, rfl⟩ := hh
    rfl
  · cases h
/-- what is to be shown of the law's body -/
theorem gLaw_sem {B : FS} {n : Nat} (h : ∀ ns, LawOk ns → (B (env0 n [scrOf ns])).bind fin = some (.N, .bl true)) : ∀ rs r, rs.all (fun r => okT r.1) = true → gLaw rs = some r → (B (env0 n rs)).bind fin = some r := by
  intro rs r _ e
  unfold gLaw at e
  split at e
  · rename_i hh
    obtain ⟨ns, h1, rfl⟩ := hh
    cases e
    exact h ns h1
  · cases e
theorem spLaw_start {K : PySem.W.Frag} {cl : Str → Option Addr} {H : Hp} {a : Addr} {ns : List Int} (hl : LawOk ns) (hS : SqL K H a (ns.map V.int)) : spG ⟨K, cl⟩ gLaw [.ref a] H (fun v _ => v = .bl true) fun _ _ _ => False := by
  refine ⟨H, [scrOf ns], (.N, .bl true), .refl _, ⟨?_, trivial⟩, rfl, ?_, rfl, fun v w' g r => ?_⟩
  · show Rp ⟨K, cl⟩ H (.ref a) (.scr (ns.map D.int))
    refine .scr hS ?_
    clear hS hl
    induction ns with
    | nil => exact .nil
    | cons n ns ih => exact .cons (.int n) ih
  · unfold gLaw
    rw [if_pos ⟨ns, hl, rfl⟩]
  · exact rv_bl g.wf r
end Vf
namespace Vf
open PySem L2
/-! what the simplifier may use: each worth at data that are known -/
section
variable {t u : Tg} {i j : Int} {x y z : Str} {b k : Bool} {xs ys ds : List D} {d : D} {e env : Ev} {n : Nat} {f g : FE} {A B : FS} {r : TD} {rs : List TD}
@[simp] theorem nm_int : nm (t, .int i) = (.N, .int i) := rfl
@[simp] theorem nm_str : nm (t, .str x) = (.N, .str x) := rfl
@[simp] theorem nm_bl : nm (t, .bl b) = (.N, .bl b) := rfl
@[simp] theorem nm_non : nm (t, .non) = (.N, .non) := rfl
@[simp] theorem nm_lst : nm (t, .lst xs) = (t, .lst xs) := rfl
@[simp] theorem nm_scr : nm (t, .scr xs) = (t, .scr xs) := rfl
@[simp] theorem nm_tup : nm (t, .tup xs) = (t, .tup xs) := rfl
@[simp] theorem el_N : el .N = .N := rfl
@[simp] theorem el_B : el .B = .B := rfl
@[simp] theorem el_T : el .T = .T := rfl
@[simp] theorem el_O : el .O = .N := rfl
@[simp] theorem mt2_NN : mt2 .N .N = .N := rfl
@[simp] theorem mt2_NB : mt2 .N .B = .B := rfl
@[simp] theorem mt2_BN : mt2 .B .N = .B := rfl
@[simp] theorem mt2_BB : mt2 .B .B = .B := rfl
@[simp] theorem nm_N : nm (.N, d) = (.N, d) := by cases d <;> rfl
@[simp] theorem dn_N : dn (.N, d) = (.N, d) := rfl
@[simp] theorem dn_B : dn (.B, d) = nm (.B, d) := rfl
@[simp] theorem dn_T : dn (.T, d) = nm (.B, d) := rfl
@[simp] theorem dn_O : dn (.O, d) = nm (.B, d) := rfl
@[simp] theorem up_N : up (.N, d) = (.N, d) := rfl
@[simp] theorem up_B : up (.B, d) = nm (.T, d) := rfl
@[simp] theorem okT_N : okT .N = true := rfl
@[simp] theorem okT_B : okT .B = true := rfl
@[simp] theorem fin_rtN : fin (.rt (.N, d)) = some (.N, d) := rfl
@[simp] theorem fin_rtB : fin (.rt (.B, d)) = some (.B, d) := rfl
@[simp] theorem fin_rtO : fin (.rt (.O, d)) = some (.N, d) := rfl
@[simp] theorem fin_nx : fin (.nx e) = some (.N, .non) := rfl
@[simp] theorem thenO_nx : thenO (.nx e) B = B e := rfl
@[simp] theorem thenO_rt : thenO (.rt r) B = some (.rt r) := rfl
@[simp] theorem thenO_bk : thenO (.bk e) B = some (.bk e) := rfl
@[simp] theorem thenO_ct : thenO (.ct e) B = some (.ct e) := rfl
@[simp] theorem asB_bl : asB (t, .bl b) = some b := rfl
@[simp] theorem tru_bl : tru (t, .bl b) = some b := rfl
@[simp] theorem tru_int : tru (t, .int i) = some (i != 0) := rfl
@[simp] theorem tru_non : tru (t, .non) = some false := rfl
@[simp] theorem tru_lst : tru (t, .lst xs) = some (!xs.isEmpty) := rfl
@[simp] theorem tru_tup : tru (t, .tup xs) = some (!xs.isEmpty) := rfl
@[simp] theorem tru_scr : tru (t, .scr xs) = some (!xs.isEmpty) := rfl
@[simp] theorem oAdd_int : oAdd (t, .int i) (u, .int j) = some (.N, .int (i + j)) := rfl
theorem oAdd_str (h : x.length + y.length ≤ lim) : oAdd (t, .str x) (u, .str y) = some (.N, .str (x ++ y)) := if_pos h
theorem oAdd_lst (h : xs.length + ys.length ≤ lim) : oAdd (t, .lst xs) (u, .lst ys) = some (mt2 (el t) (el u), .lst (xs ++ ys)) := if_pos h
theorem catL_lst (h : xs.length + ys.length ≤ lim) : catL (t, .lst xs) (u, .lst ys) = some (mt2 (el t) (el u), xs ++ ys) := if_pos h
@[simp] theorem oSub_int : oSub (t, .int i) (u, .int j) = some (.N, .int (i - j)) := rfl
theorem oMul_int (h : bitsOk i j = true) : oMul (t, .int i) (u, .int j) = some (.N, .int (i * j)) := cif_pos h
theorem oMul_lst (h : i.natAbs ≤ lim ∧ xs.length * i.toNat ≤ lim) : oMul (t, .lst xs) (u, .int i) = some (el t, .lst (List.replicate i.toNat xs).flatten) := cif_pos h
theorem oMul_str (h : 0 ≤ i ∧ i.natAbs ≤ lim ∧ x.length * i.toNat ≤ lim) : oMul (t, .str x) (u, .int i) = some (.N, .str (repS x i.toNat)) := cif_pos h
theorem oFd_int (h : 0 < j ∧ j < 18446744073709551616) : oFd (t, .int i) (u, .int j) = some (.N, .int (i / j)) := cif_pos h
theorem oMod_int (h : 0 < j) : oMod (t, .int i) (u, .int j) = some (.N, .int (i % j)) := cif_pos h
theorem oPow_int (h : 0 ≤ j ∧ j ≤ 1000000 ∧ i.natAbs < 18446744073709551616) : oPow (t, .int i) (u, .int j) = some (.N, .int (i ^ j.toNat)) := cif_pos h
@[simp] theorem oNeg_int : oNeg (t, .int i) = some (.N, .int (-i)) := rfl
@[simp] theorem eqD_int : eqD (.int i) (.int j) = some (decide (i = j)) := rfl
@[simp] theorem eqD_str : eqD (.str x) (.str y) = some (decide (x = y)) := rfl
@[simp] theorem eqD_bl : eqD (.bl b) (.bl k) = some (decide (b = k)) := rfl
@[simp] theorem oEq_d : oEq (t, d) r = (eqD d r.2).map fun k => (.N, .bl k) := rfl
@[simp] theorem oNe_d : oNe (t, d) r = (eqD d r.2).map fun k => (.N, .bl (!k)) := rfl
@[simp] theorem oLt_int : oLt (t, .int i) (u, .int j) = some (.N, .bl (decide (i < j))) := by show some (Tg.N, D.bl (cdec (i < j))) = _; rw [cdec_eq]
@[simp] theorem oLe_int : oLe (t, .int i) (u, .int j) = some (.N, .bl (decide (i ≤ j))) := by show some (Tg.N, D.bl (cdec (i ≤ j))) = _; rw [cdec_eq]
@[simp] theorem oGt_int : oGt (t, .int i) (u, .int j) = some (.N, .bl (decide (j < i))) := by show some (Tg.N, D.bl (cdec (j < i))) = _; rw [cdec_eq]
@[simp] theorem oGe_int : oGe (t, .int i) (u, .int j) = some (.N, .bl (decide (j ≤ i))) := by show some (Tg.N, D.bl (cdec (j ≤ i))) = _; rw [cdec_eq]
@[simp] theorem oIs_bl : oIs (t, .bl b) (u, .bl k) = some (.N, .bl (decide (b = k))) := rfl
@[simp] theorem oIsN_bl : oIsN (t, .bl b) (u, .bl k) = some (.N, .bl (!decide (b = k))) := rfl
@[simp] theorem oIs_nn : oIs (t, .non) (u, .non) = some (.N, .bl true) := rfl
@[simp] theorem oIsN_nn : oIsN (t, .non) (u, .non) = some (.N, .bl false) := rfl
@[simp] theorem oIs_in : oIs (t, .int i) (u, .non) = some (.N, .bl false) := rfl
@[simp] theorem oIsN_in : oIsN (t, .int i) (u, .non) = some (.N, .bl true) := rfl
@[simp] theorem oIs_sn : oIs (t, .str x) (u, .non) = some (.N, .bl false) := rfl
@[simp] theorem oIsN_sn : oIsN (t, .str x) (u, .non) = some (.N, .bl true) := rfl
@[simp] theorem oIs_ln : oIs (t, .lst xs) (u, .non) = some (.N, .bl false) := rfl
@[simp] theorem oIsN_ln : oIsN (t, .lst xs) (u, .non) = some (.N, .bl true) := rfl
@[simp] theorem oIs_tn : oIs (t, .tup xs) (u, .non) = some (.N, .bl false) := rfl
@[simp] theorem oIsN_tn : oIsN (t, .tup xs) (u, .non) = some (.N, .bl true) := rfl
theorem oIx_lst (h : atI xs i = some d) : oIx (t, .lst xs) (u, .int i) = some (nm (el t, d)) := by show (atI xs i).map _ = _; rw [h]; rfl
theorem oIx_scr (h : atI xs i = some d) : oIx (t, .scr xs) (u, .int i) = some (nm (el t, d)) := by show (atI xs i).map _ = _; rw [h]; rfl
theorem oIx_tup (h : atI xs i = some d) : oIx (t, .tup xs) (u, .int i) = some (nm (el t, d)) := by show (atI xs i).map _ = _; rw [h]; rfl
theorem oIx_str {c : Nat} (hl : x.length ≤ lim) (h : atI x.cps.toList i = some c) : oIx (t, .str x) (u, .int i) = some (.N, .str ⟨#[c]⟩) := by
  show (if x.length ≤ lim then (atI x.cps.toList i).map fun c => (Tg.N, D.str ⟨#[c]⟩) else none) = _
  rw [if_pos hl, h]; rfl
theorem oIn_lst (h : (isS d && ds.all isS) = true) : oIn (t, d) (u, .lst ds) = some (.N, .bl (ds.any fun y => eqS y d)) := by
  show ((if isS d && ds.all isS then some (ds.any fun y => eqS y d) else none : Option Bool).map fun k => (Tg.N, D.bl k)) = _
  rw [if_pos h]; rfl
theorem oIn_tup (h : (isS d && ds.all isS) = true) : oIn (t, d) (u, .tup ds) = some (.N, .bl (ds.any fun y => eqS y d)) := by
  show ((if isS d && ds.all isS then some (ds.any fun y => eqS y d) else none : Option Bool).map fun k => (Tg.N, D.bl k)) = _
  rw [if_pos h]; rfl
theorem oNi_lst (h : (isS d && ds.all isS) = true) : oNi (t, d) (u, .lst ds) = some (.N, .bl (!ds.any fun y => eqS y d)) := by
  show ((if isS d && ds.all isS then some (ds.any fun y => eqS y d) else none : Option Bool).map fun k => (Tg.N, D.bl (!k))) = _
  rw [if_pos h]; rfl
theorem oNi_tup (h : (isS d && ds.all isS) = true) : oNi (t, d) (u, .tup ds) = some (.N, .bl (!ds.any fun y => eqS y d)) := by
  show ((if isS d && ds.all isS then some (ds.any fun y => eqS y d) else none : Option Bool).map fun k => (Tg.N, D.bl (!k))) = _
  rw [if_pos h]; rfl
theorem oIn_str (h : x.length = 1) : oIn (t, .str x) (u, .str z) = some (.N, .bl (decide (x.cps.getD 0 0 ∈ z.cps.toList))) := by
  show ((if x.length = 1 then some (decide (x.cps.getD 0 0 ∈ z.cps.toList)) else none : Option Bool).map fun k => (Tg.N, D.bl k)) = _
  rw [if_pos h]; rfl
theorem oNi_str (h : x.length = 1) : oNi (t, .str x) (u, .str z) = some (.N, .bl (!decide (x.cps.getD 0 0 ∈ z.cps.toList))) := by
  show ((if x.length = 1 then some (decide (x.cps.getD 0 0 ∈ z.cps.toList)) else none : Option Bool).map fun k => (Tg.N, D.bl (!k))) = _
  rw [if_pos h]; rfl
@[simp] theorem lenB_lst : lenB [(t, .lst xs)] = some (.N, .int xs.length) := rfl
@[simp] theorem lenB_scr : lenB [(t, .scr xs)] = some (.N, .int xs.length) := rfl
@[simp] theorem lenB_tup : lenB [(t, .tup xs)] = some (.N, .int xs.length) := rfl
theorem lenB_str (h : x.length ≤ lim) : lenB [(t, .str x)] = some (.N, .int x.length) := if_pos h
@[simp] theorem intB_int : intB [(t, .int i)] = some (.N, .int i) := rfl
@[simp] theorem intB_bl : intB [(t, .bl b)] = some (.N, .int (if b then 1 else 0)) := rfl
@[simp] theorem absB_int : absB [(t, .int i)] = some (.N, .int (if i < 0 then -i else i)) := rfl
@[simp] theorem maxB_int : maxB [(t, .int i), (u, .int j)] = some (.N, .int (if j > i then j else i)) := rfl
@[simp] theorem minB_int : minB [(t, .int i), (u, .int j)] = some (.N, .int (if j < i then j else i)) := rfl
@[simp] theorem tupB_lst : tupB [(t, .lst xs)] = some (el t, .tup xs) := rfl
@[simp] theorem tupB_scr : tupB [(t, .scr xs)] = some (el t, .tup xs) := rfl
@[simp] theorem tupB_tup : tupB [(t, .tup xs)] = some (t, .tup xs) := rfl
@[simp] theorem listB_lst : listB [(t, .lst xs)] = some (el t, xs) := rfl
@[simp] theorem listB_scr : listB [(t, .scr xs)] = some (el t, xs) := rfl
@[simp] theorem listB_tup : listB [(t, .tup xs)] = some (el t, xs) := rfl
@[simp] theorem isiD_int {T : String} : isiD (.int i) T = kitB "int" T := rfl
@[simp] theorem isiD_bl {T : String} : isiD (.bl b) T = kitB "bool" T := rfl
@[simp] theorem isiD_str {T : String} : isiD (.str x) T = kitB "str" T := rfl
@[simp] theorem isiD_non {T : String} : isiD .non T = kitB "NoneType" T := rfl
@[simp] theorem isiD_lst {T : String} : isiD (.lst xs) T = kitB "list" T := rfl
@[simp] theorem isiD_scr {T : String} : isiD (.scr xs) T = kitB "list" T := rfl
@[simp] theorem isiD_tup {T : String} : isiD (.tup xs) T = kitB "tuple" T := rfl
@[simp] theorem itemsOf_Nl : itemsOf (.N, .lst xs) = some (xs.map fun d => nm (.N, d)) := rfl
@[simp] theorem itemsOf_Bl : itemsOf (.B, .lst xs) = some (xs.map fun d => nm (.B, d)) := rfl
@[simp] theorem itemsOf_Ns : itemsOf (.N, .scr xs) = some (xs.map fun d => nm (.N, d)) := rfl
@[simp] theorem itemsOf_Bs : itemsOf (.B, .scr xs) = some (xs.map fun d => nm (.B, d)) := rfl
@[simp] theorem itemsOf_Nt : itemsOf (.N, .tup xs) = some (xs.map fun d => nm (.N, d)) := rfl
@[simp] theorem itemsOf_Bt : itemsOf (.B, .tup xs) = some (xs.map fun d => nm (.B, d)) := rfl
@[simp] theorem itemsR_l : itemsR (t, .lst xs) = some (xs.map fun d => nm (el t, d)) := rfl
@[simp] theorem itemsR_s : itemsR (t, .scr xs) = some (xs.map fun d => nm (el t, d)) := rfl
@[simp] theorem itemsR_t : itemsR (t, .tup xs) = some (xs.map fun d => nm (el t, d)) := rfl
@[simp] theorem signsOf_s : signsOf (t, .str z) = some (z.cps.toList.map fun c => (.N, .str ⟨#[c]⟩)) := rfl
@[simp] theorem unp_t : unp (t, .tup xs) = some (xs.map fun d => nm (el t, d)) := rfl
@[simp] theorem unp_l : unp (t, .lst xs) = some (xs.map fun d => nm (el t, d)) := rfl
@[simp] theorem setNil_nil : setNil [] env = some env := rfl
@[simp] theorem setCons_cons {s : TD → Ev → Option Ev} {l : List TD → Ev → Option Ev} : setCons s l (r :: rs) env = (s r env).bind fun e => l rs e := rfl
def setL (i : Nat) (r : TD) (l : List Sl) : Option (List Sl) := if i < l.length then (match r.1 with
  | .N => some (l.set i (.val .N r.2))
  | .B => some (l.set i (.val .B r.2))
  | _ => none) else none
@[simp] theorem setV_mk {l : List Sl} {T : Tb} : setV n r ⟨l, T⟩ = (setL n r l).map fun l' => ⟨l', T⟩ := by
  obtain ⟨t, d⟩ := r
  unfold setV setL
  by_cases h : n < l.length
  · rw [if_pos h, if_pos h]
    cases t <;> rfl
  · rw [if_neg h, if_neg h]
    rfl
@[simp] theorem put_mk {l : List Sl} {T : Tb} {x : Sl} : Ev.put ⟨l, T⟩ n x = ⟨l.set n x, T⟩ := rfl
@[simp] theorem setL_0N {s : Sl} {l : List Sl} : setL 0 (.N, d) (s :: l) = some (.val .N d :: l) := rfl
@[simp] theorem setL_0B {s : Sl} {l : List Sl} : setL 0 (.B, d) (s :: l) = some (.val .B d :: l) := rfl
@[simp] theorem setL_s {s : Sl} {l : List Sl} : setL (n + 1) r (s :: l) = (setL n r l).map fun e => s :: e := by
  obtain ⟨t, d⟩ := r
  unfold setL
  by_cases h : n < l.length
  · rw [if_pos h, if_pos (by simpa using h)]
    cases t <;> rfl
  · rw [if_neg h, if_neg (by simpa using h)]
    rfl
@[simp] theorem cell_N : cell .N = .N := rfl
@[simp] theorem cell_B : cell .B = .B := rfl
@[simp] theorem cell_T : cell .T = .T := rfl
@[simp] theorem cell_O : cell .O = .T := rfl
@[simp] theorem tagL_nil : tagL [] = .N := rfl
@[simp] theorem tagL_cons : tagL (r :: rs) = mt2 (cell r.1) (tagL rs) := rfl
theorem tagL_N : ∀ {rs : List TD}, (∀ r ∈ rs, r.1 = .N) → tagL rs = .N
  | [], _ => rfl
  | r :: rs, h => by
    rw [tagL_cons, h r List.mem_cons_self, tagL_N fun x hx => h x (List.mem_cons_of_mem _ hx)]
    rfl
@[simp] theorem sVar_0v {l : List Sl} {T : Tb} : sVar 0 ⟨.val t d :: l, T⟩ = some (nm (t, d)) := rfl
@[simp] theorem sVar_0o {l : List Sl} {T : Tb} : sVar 0 ⟨.own ds :: l, T⟩ = some (.O, .lst ds) := rfl
@[simp] theorem sVar_s {s : Sl} {l : List Sl} {T : Tb} : sVar (n + 1) ⟨s :: l, T⟩ = sVar n ⟨l, T⟩ := rfl
@[simp] theorem forL_nil {s : TD → Ev → Option Ev} : forL A s [] env = some (.nx env) := rfl
def loopK (A : FS) (s : TD → Ev → Option Ev) (rs : List TD) : Out → Option Out
  | .nx e' => forL A s rs e'
  | .ct e' => forL A s rs e'
  | .bk e' => some (.nx e')
  | .rt r => some (.rt r)
  | .rth x T => some (.rth x T)
theorem forL_cons {s : TD → Ev → Option Ev} : forL A s (r :: rs) env = (s r env).bind fun e => (A e).bind (loopK A s rs) := rfl
@[simp] theorem loopK_nx {s : TD → Ev → Option Ev} : loopK A s rs (.nx e) = forL A s rs e := rfl
@[simp] theorem loopK_ct {s : TD → Ev → Option Ev} : loopK A s rs (.ct e) = forL A s rs e := rfl
@[simp] theorem loopK_bk {s : TD → Ev → Option Ev} : loopK A s rs (.bk e) = some (.nx e) := rfl
@[simp] theorem loopK_rt {s : TD → Ev → Option Ev} : loopK A s rs (.rt r) = some (.rt r) := rfl
/-- one turn that goes on -/
theorem forL_step {s : TD → Ev → Option Ev} {e1 e2 : Ev} (h1 : s r env = some e1) (h2 : A e1 = some (.nx e2)) : forL A s (r :: rs) env = forL A s rs e2 := by
  rw [forL_cons, h1]
  show (A e1).bind _ = _
  rw [h2]
  rfl
def appR (n : Nat) (env : Ev) (ds : List D) (r : TD) : Option Out := match r.1 with
  | .N => if ds.length ≤ lim then some (.nx (env.put n (.own (ds ++ [r.2])))) else none
  | _ => none
def appK (n : Nat) (f : FE) (env : Ev) : Sl → Option Out
  | .own ds => (f env).bind (appR n env ds)
  | _ => none
@[simp] theorem sApp_eq : sApp n f env = (env.s[n]?).bind (appK n f env) := by
  unfold sApp
  cases env.s[n]? with
  | none => rfl
  | some s => cases s <;> rfl
@[simp] theorem appK_own : appK n f env (.own ds) = (f env).bind (appR n env ds) := rfl
theorem appR_N (h : ds.length ≤ lim) : appR n env ds (.N, d) = some (.nx (env.put n (.own (ds ++ [d])))) := if_pos h
def extR (n : Nat) (env : Ev) (ds : List D) (r : TD) : Option Out := match r.1, r.2 with
  | .N, .lst es => if ds.length + es.length ≤ lim then some (.nx (env.put n (.own (ds ++ es)))) else none
  | _, _ => none
def extK (n : Nat) (f : FE) (env : Ev) : Sl → Option Out
  | .own ds => (f env).bind (extR n env ds)
  | _ => none
@[simp] theorem sExt_eq : sExt n f env = (env.s[n]?).bind (extK n f env) := by
  unfold sExt
  cases env.s[n]? with
  | none => rfl
  | some s => cases s <;> rfl
@[simp] theorem extK_own : extK n f env (.own ds) = (f env).bind (extR n env ds) := rfl
theorem extR_N {es : List D} (h : ds.length + es.length ≤ lim) : extR n env ds (.N, .lst es) = some (.nx (env.put n (.own (ds ++ es)))) := if_pos h
def ownK (n : Nat) (env : Ev) (r : Tg × List D) : Option Out := if n < env.s.length then (match r.1 with
  | .N => some (.nx (env.put n (.own r.2)))
  | _ => none) else none
@[simp] theorem sOwn_eq {fl : FL} : sOwn n fl env = (fl env).bind (ownK n env) := rfl
@[simp] theorem ownK_N (h : n < env.s.length) : ownK n env (.N, ds) = some (.nx (env.put n (.own ds))) := if_pos h
def frzK (n : Nat) (env : Ev) : Sl → Option Out
  | .own ds => some (.nx (env.put n (.val .N (.lst ds))))
  | _ => some (.nx env)
@[simp] theorem sFrz_eq : sFrz n env = (env.s[n]?).bind (frzK n env) := by
  unfold sFrz
  cases env.s[n]? with
  | none => rfl
  | some s => cases s <;> rfl
@[simp] theorem frzK_own : frzK n env (.own ds) = some (.nx (env.put n (.val .N (.lst ds)))) := rfl
@[simp] theorem frzK_val : frzK n env (.val t d) = some (.nx env) := rfl
@[simp] theorem sR1_eq : sR1 f env = (f env).bind r1K := rfl
theorem r1K_int (h : j < 4611686018427387904 ∧ -4611686018427387904 ≤ j) : r1K (t, .int j) = some (iRng j.toNat 0) := cif_pos h
@[simp] theorem sR2_eq : sR2 f g env = (f env).bind fun r => (g env).bind fun r' => r2K r r' := rfl
theorem r2K_int (h : i < 4611686018427387904 ∧ -4611686018427387904 ≤ i ∧ j < 4611686018427387904 ∧ -4611686018427387904 ≤ j) : r2K (t, .int i) (u, .int j) = some (iRng (j - i).toNat i) := cif_pos h
def ptK (r : TD) : Option (Option Int) := match r.2 with | .int i => some (some i) | _ => none
@[simp] theorem sPt_eq : sPt f env = (f env).bind ptK := rfl
@[simp] theorem ptK_int : ptK (t, .int i) = some (some i) := rfl
theorem sSeq_nx {e2 : Ev} (h : A env = some (.nx e2)) : sSeq A B env = B e2 := by unfold sSeq; rw [h]; rfl
theorem sSeq_rt (h : A env = some (.rt r)) : sSeq A B env = some (.rt r) := by unfold sSeq; rw [h]; rfl
theorem sSeq_bk {e2 : Ev} (h : A env = some (.bk e2)) : sSeq A B env = some (.bk e2) := by unfold sSeq; rw [h]; rfl
theorem sSeq_ct {e2 : Ev} (h : A env = some (.ct e2)) : sSeq A B env = some (.ct e2) := by unfold sSeq; rw [h]; rfl
theorem sFor_at {fi : FI} {s : TD → Ev → Option Ev} {items : List TD} (h : fi env = some items) : sFor fi s A env = forL A s items env := by unfold sFor; rw [h]; rfl
theorem sIf_t {c : FT} (h : c env = some true) : sIf c A B env = A env := by unfold sIf; rw [h]; rfl
theorem sIf_f {c : FT} (h : c env = some false) : sIf c A B env = B env := by unfold sIf; rw [h]; rfl
theorem slD_str {lo hi : Option Int} (h : x.length ≤ lim) : slD (t, .str x) lo hi = some (.N, .str (cutS x lo hi)) := if_pos h
@[simp] theorem slD_tup {lo hi : Option Int} : slD (t, .tup xs) lo hi = some (el t, .tup (cutD xs lo hi)) := rfl
theorem oAdd_tup (h : xs.length + ys.length ≤ lim) : oAdd (t, .tup xs) (u, .tup ys) = some (mt2 (el t) (el u), .tup (xs ++ ys)) := if_pos h
@[simp] theorem itemsRev_Nl : itemsRev (.N, .lst xs) = some (xs.reverse.map fun d => nm (.N, d)) := rfl
@[simp] theorem itemsRev_Bl : itemsRev (.B, .lst xs) = some (xs.reverse.map fun d => nm (.B, d)) := rfl
@[simp] theorem itemsRev_Nt : itemsRev (.N, .tup xs) = some (xs.reverse.map fun d => nm (.N, d)) := rfl
@[simp] theorem itemsRev_Bt : itemsRev (.B, .tup xs) = some (xs.reverse.map fun d => nm (.B, d)) := rfl
def augK (g : Int → Int → Int) (i : Nat) (env : Ev) (a b : TD) : Option Out := match a.2, b.2 with
  | .int x, .int y => (setV i (.N, .int (g x y)) env).map .nx
  | _, _ => none
@[simp] theorem augI_eq {g : Int → Int → Int} : augI g n f env = (sVar n env).bind fun a => (f env).bind fun b => augK g n env a b := rfl
@[simp] theorem augK_int {g : Int → Int → Int} : augK g n env (t, .int i) (u, .int j) = (setV n (.N, .int (g i j)) env).map .nx := rfl
@[simp] theorem slD_lst {lo hi : Option Int} : slD (t, .lst xs) lo hi = some (el t, .lst (cutD xs lo hi)) := rfl
@[simp] theorem env0_1 {a : TD} : env0 n [a] = ⟨.val a.1 a.2 :: List.replicate (n - 1) .un, []⟩ := rfl
@[simp] theorem env0_2 {a b : TD} : env0 n [a, b] = ⟨.val a.1 a.2 :: .val b.1 b.2 :: List.replicate (n - 2) .un, []⟩ := rfl
@[simp] theorem env0_3 {a b c : TD} : env0 n [a, b, c] = ⟨.val a.1 a.2 :: .val b.1 b.2 :: .val c.1 c.2 :: List.replicate (n - 3) .un, []⟩ := rfl
@[simp] theorem env0_0 : env0 n [] = ⟨List.replicate n .un, []⟩ := rfl
@[simp] theorem env0_4 {a b c d : TD} : env0 n [a, b, c, d] = ⟨.val a.1 a.2 :: .val b.1 b.2 :: .val c.1 c.2 :: .val d.1 d.2 :: List.replicate (n - 4) .un, []⟩ := rfl
end
end Vf
namespace Lw
open PySem L2 Vf
/-! what is handed back may be handed on -/
def gN (h : List TD → Option D) : List TD → Option TD := fun rs => (h rs).map fun d => (.N, d)
theorem gN_ok {h : List TD → Option D} (rs : List TD) (r : TD) (e : gN h rs = some r) : okT r.1 = true := by
  obtain ⟨d, _, rfl⟩ := Option.map_eq_some_iff.mp e
  rfl
theorem gN_len {h : List TD → Option D} {n : Nat} (hl : ∀ rs d, h rs = some d → rs.length = n) (rs : List TD) (r : TD) (e : gN h rs = some r) : rs.length = n := by
  obtain ⟨d, q, _⟩ := Option.map_eq_some_iff.mp e
  exact hl rs d q
theorem gN_sem {h : List TD → Option D} {F : FS} {n : Nat} (hs : ∀ rs d, rs.all (fun r => okT r.1) = true → h rs = some d → (F (env0 n rs)).bind fin = some (.N, d)) (rs : List TD) (r : TD) (ha : rs.all (fun r => okT r.1) = true) (e : gN h rs = some r) : (F (env0 n rs)).bind fin = some r := by
  obtain ⟨d, q, rfl⟩ := Option.map_eq_some_iff.mp e
  exact hs rs d ha q
theorem gN_of {h : List TD → Option D} {rs : List TD} {d : D} (e : h rs = some d) : gN h rs = some (.N, d) := by
  unfold gN
  rw [e]
  rfl
/-! lists of ints -/
def intsOf : List D → Option (List Int)
  | [] => some []
  | .int i :: r => (intsOf r).map (i :: ·)
  | _ :: _ => none
theorem intsOf_map : ∀ ns : List Int, intsOf (ns.map D.int) = some ns
  | [] => rfl
  | n :: ns => by
    rw [List.map_cons]
    show (intsOf (ns.map D.int)).map (n :: ·) = _
    rw [intsOf_map ns]
    rfl
theorem intsOf_some : ∀ {ds : List D} {ns : List Int}, intsOf ds = some ns → ds = ns.map D.int
  | [], ns, h => by cases h; rfl
  | .int i :: r, ns, h => by
    obtain ⟨ms, h1, rfl⟩ := Option.map_eq_some_iff.mp h
    rw [List.map_cons, intsOf_some h1]
  | .non :: _, _, h => by cases h
  | .bl _ :: _, _, h => by cases h
  | .str _ :: _, _, h => by cases h
  | .lst _ :: _, _, h => by cases h
  | .scr _ :: _, _, h => by cases h
  | .tup _ :: _, _, h => by cases h
  | .ins _ _ _ :: _, _, h => by cases h
  | .dic _ _ :: _, _, h => by cases h
/-! sizes of ints -/
theorem bits_of {i : Int} {n : Nat} (h : i.natAbs < 2 ^ n) : Builtin.Int.intBits i ≤ n := PySem.intBits_le_iff.mpr h
theorem bits_ok {i j : Int} {m n : Nat} (hi : Builtin.Int.intBits i ≤ m) (hj : Builtin.Int.intBits j ≤ n) (h : m + n ≤ 134217728) : bitsOk i j = true := decide_eq_true (by omega)
theorem bits64 {i : Int} (h1 : -18446744073709551616 < i) (h2 : i < 18446744073709551616) : Builtin.Int.intBits i ≤ 64 := bits_of (by omega)
theorem bits_sm {i j : Int} (h1 : -18446744073709551616 < i) (h2 : i < 18446744073709551616) (h3 : -18446744073709551616 < j) (h4 : j < 18446744073709551616) : bitsOk i j = true := bits_ok (bits64 h1 h2) (bits64 h3 h4) (by decide)
theorem bits_smr {i j : Int} {m : Nat} (hi : Builtin.Int.intBits i ≤ m) (hm : m ≤ 134217000) (h3 : -18446744073709551616 < j) (h4 : j < 18446744073709551616) : bitsOk i j = true := bits_ok hi (bits64 h3 h4) (by omega)
/-! lookups -/
theorem atI_map {α : Type} {f : α → D} {xs : List α} {j : Nat} (h : j < xs.length) : atI (xs.map f) (j : Int) = some (f xs[j]) := by
  refine atI_nat ?_
  rw [List.getElem?_map, List.getElem?_eq_getElem h]
  rfl
end Lw
namespace Lw
open PySem L2 Vf
@[simp] theorem kit1 : kitB "int" "int" = some true := by decide +kernel
@[simp] theorem kit2 : kitB "int" "bool" = some false := by decide +kernel
@[simp] theorem kit3 : kitB "bool" "int" = some true := by decide +kernel
@[simp] theorem kit4 : kitB "bool" "bool" = some true := by decide +kernel
@[simp] theorem kit5 : kitB "str" "int" = some false := by decide +kernel
@[simp] theorem kit6 : kitB "str" "bool" = some false := by decide +kernel
@[simp] theorem kit7 : kitB "str" "str" = some true := by decide +kernel
@[simp] theorem kit8 : kitB "NoneType" "int" = some false := by decide +kernel
@[simp] theorem kit9 : kitB "NoneType" "bool" = some false := by decide +kernel
@[simp] theorem kit10 : kitB "tuple" "tuple" = some true := by decide +kernel
@[simp] theorem kit11 : kitB "list" "tuple" = some false := by decide +kernel
@[simp] theorem kit12 : kitB "list" "list" = some true := by decide +kernel
@[simp] theorem kit13 : kitB "tuple" "list" = some false := by decide +kernel
@[simp] theorem kit14 : kitB "int" "tuple" = some false := by decide +kernel
@[simp] theorem kit15 : kitB "str" "tuple" = some false := by decide +kernel
@[simp] theorem kit16 : kitB "int" "str" = some false := by decide +kernel
@[simp] theorem kit17 : kitB "NoneType" "tuple" = some false := by decide +kernel
@[simp] theorem kit18 : kitB "NoneType" "str" = some false := by decide +kernel
@[simp] theorem kit19 : kitB "bool" "str" = some false := by decide +kernel
@[simp] theorem kit20 : kitB "tuple" "str" = some false := by decide +kernel
@[simp] theorem kit21 : kitB "list" "str" = some false := by decide +kernel
@[simp] theorem kit22 : kitB "tuple" "int" = some false := by decide +kernel
@[simp] theorem kit23 : kitB "list" "int" = some false := by decide +kernel
/-! _law_whole -/
def h_law_whole (rs : List TD) : Option D := match rs with
  | [(_, .int _)] => some (.bl true)
  | [(_, .bl _)] => some (.bl false)
  | [(_, .str _)] => some (.bl false)
  | [(_, .non)] => some (.bl false)
  | _ => none
abbrev g_law_whole := gN h_law_whole
abbrev N_law_whole : List Str := ["value"]
noncomputable def F_law_whole : FS := (sRet (sAndV (sIsi "int" (sVar 0)) (sNotV (sIsi "bool" (sVar 0)))))
theorem sem_law_whole : ∀ rs r, rs.all (fun r => okT r.1) = true → g_law_whole rs = some r → (F_law_whole (env0 N_law_whole.length rs)).bind fin = some r := gN_sem (by
  intro rs d ha h
  unfold h_law_whole at h
  split at h <;> cases h <;> simp [F_law_whole])
theorem len_law_whole : ∀ rs r, g_law_whole rs = some r → rs.length = 1 := gN_len (by
  intro rs d h
  unfold h_law_whole at h
  split at h <;> cases h <;> rfl)
theorem okt_law_whole : ∀ rs r, g_law_whole rs = some r → okT r.1 = true := gN_ok
/-! _law_cell -/
def seedF (s : Int) (ns : List Int) : Int := ns.foldl (fun s c => (s * 31 + c % 1000003) % 1000003) s
def seedM (ns : List Int) : Int := seedF 17 ns
def cellM (ns : List Int) (k : Nat) : Int := if h : k < ns.length then ns[k] else ((seedM ns + 7) * ((k : Int) + 3) * 69621) % 2147483647
theorem seedM_bd : ∀ (ns : List Int), 0 ≤ seedM ns ∧ seedM ns < 1000003 := by
  have aux : ∀ (ns : List Int) (s : Int), 0 ≤ s ∧ s < 1000003 → 0 ≤ ns.foldl (fun s c => (s * 31 + c % 1000003) % 1000003) s ∧ ns.foldl (fun s c => (s * 31 + c % 1000003) % 1000003) s < 1000003 := by
    intro ns
    induction ns with
    | nil => intro s h; exact h
    | cons n ns ih =>
      intro s h
      rw [List.foldl_cons]
      exact ih _ (by omega)
  exact fun ns => aux ns 17 (by decide)
open Classical in
noncomputable def h_law_cell (rs : List TD) : Option D := match rs with
  | [(_, .scr ds), (_, .int k)] => (intsOf ds).bind fun ns => if LawOk ns ∧ 0 ≤ k ∧ k < 1000000 then some (.int (cellM ns k.toNat)) else none
  | _ => none
noncomputable abbrev g_law_cell := gN h_law_cell
theorem g_law_cell_at {t u : Tg} {ns : List Int} {k : Nat} (h : LawOk ns) (hk : k < 1000000) : g_law_cell [(t, .scr (ns.map D.int)), (u, .int (k : Int))] = some (.N, .int (cellM ns k)) := by
  refine gN_of ?_
  unfold h_law_cell
  simp only [intsOf_map, Option.bind_some]
  rw [if_pos ⟨h, by omega, by omega⟩]
  rfl
abbrev N_law_cell : List Str := ["script", "k", "seed", "cell"]
noncomputable def F_law_cell : FS := (sSeq (sIf (sBl (sOp oLt (sVar 1) (sB lenB (sCons (sVar 0) sNil))))
  (sRet (sOp oIx (sVar 0) (sVar 1)))
  sNx) (sSeq (sSet 2 (sLit (.int 17))) (sSeq (sFor (sIt (sVar 0)) (setV 3)
  (sSet 2 (sOp oMod (sB intB (sCons (sOp oAdd (sOp oMul (sVar 2) (sLit (.int 31))) (sOp oMod (sB intB (sCons (sVar 3) sNil)) (sLit (.int 1000003)))) sNil)) (sLit (.int 1000003))))) (sRet (sOp oMod (sB intB (sCons (sOp oMul (sOp oMul (sOp oAdd (sVar 2) (sLit (.int 7))) (sOp oAdd (sVar 1) (sLit (.int 3)))) (sLit (.int 69621))) sNil)) (sLit (.int 2147483647)))))))
theorem cell_loop {A : FS} {a b : Sl} (hA : ∀ (s c : Int), 0 ≤ s → s < 1000003 → A ⟨[a, b, .val .N (.int s), .val .N (.int c)], []⟩ = some (.nx ⟨[a, b, .val .N (.int ((s * 31 + c % 1000003) % 1000003)), .val .N (.int c)], []⟩)) :
    ∀ (ns : List Int) (s : Int) (c : Sl), 0 ≤ s → s < 1000003 → ∃ c', forL A (setV 3) (ns.map fun n => (.N, D.int n)) ⟨[a, b, .val .N (.int s), c], []⟩ = some (.nx ⟨[a, b, .val .N (.int (seedF s ns)), c'], []⟩)
  | [], s, c, h0, h1 => ⟨c, rfl⟩
  | n :: ns, s, c, h0, h1 => by
    obtain ⟨c', h⟩ := cell_loop hA ns ((s * 31 + n % 1000003) % 1000003) (.val .N (.int n)) (by omega) (by omega)
    refine ⟨c', ?_⟩
    show _ = some (Out.nx ⟨[a, b, .val .N (.int (seedF ((s * 31 + n % 1000003) % 1000003) ns)), c'], []⟩)
    rw [List.map_cons, ← h]
    show ((setV 3 (.N, .int n) ⟨[a, b, .val .N (.int s), c], []⟩).bind fun e => (A e).bind _) = _
    have : setV 3 (.N, D.int n) ⟨[a, b, .val .N (.int s), c], []⟩ = some ⟨[a, b, .val .N (.int s), .val .N (.int n)], []⟩ := by simp
    rw [this]
    show (A ⟨[a, b, .val .N (.int s), .val .N (.int n)], []⟩).bind _ = _
    rw [hA s n h0 h1]
    rfl
theorem sem_law_cell : ∀ rs r, rs.all (fun r => okT r.1) = true → g_law_cell rs = some r → (F_law_cell (env0 N_law_cell.length rs)).bind fin = some r := gN_sem (by
  intro rs d ha h
  unfold h_law_cell at h
  split at h
  · rename_i t ds u k
    obtain ⟨ns, h1, h2⟩ := Option.bind_eq_some_iff.mp h
    split at h2
    · rename_i hc
      cases h2
      obtain ⟨hl, hk0, hk1⟩ := hc
      have e := intsOf_some h1
      subst e
      obtain ⟨j, rfl⟩ : ∃ j : Nat, k = (j : Int) := ⟨k.toNat, by omega⟩
      by_cases hj : j < ns.length
      · have h3 : atI (ns.map D.int) (j : Int) = some (.int ns[j]) := atI_map hj
        simp [F_law_cell, cellM, hj, oIx_scr h3]
      · obtain ⟨s0, s1⟩ := seedM_bd ns
        obtain ⟨c', hh⟩ := cell_loop (a := .val t (.scr (ns.map D.int))) (b := .val u (.int (j : Int))) (A := (sSet 2 (sOp oMod (sB intB (sCons (sOp oAdd (sOp oMul (sVar 2) (sLit (.int 31))) (sOp oMod (sB intB (sCons (sVar 3) sNil)) (sLit (.int 1000003)))) sNil)) (sLit (.int 1000003)))))
          (fun s c h0 h1 => by
            have hb : bitsOk s 31 = true := bits_sm (by omega) (by omega) (by decide) (by decide)
            simp [oMul_int hb, oMod_int]) ns 17 .un (by decide) (by decide)
        have b1 : bitsOk (seedM ns + 7) ((j : Int) + 3) = true := bits_sm (by omega) (by omega) (by omega) (by omega)
        have b2 : bitsOk ((seedM ns + 7) * ((j : Int) + 3)) 69621 = true := by
          refine bits_smr (m := 128) ?_ (by decide) (by decide) (by decide)
          exact Nat.le_trans (PySem.intBits_mul_le (bits64 (by omega) (by omega)) (bits64 (by omega) (by omega))) (by decide)
        have hj' : ¬ ((j : Int) < (ns.length : Int)) := by omega
        simp only [List.all_cons, Bool.and_eq_true] at ha
        have hi : itemsOf (t, .scr (ns.map D.int)) = some (ns.map fun n => (Tg.N, D.int n)) := by
          cases t <;> first | exact Bool.noConfusion ha.1 | (simp [List.map_map, Function.comp_def])
        have hc : cellM ns j = (seedM ns + 7) * ((j : Int) + 3) * 69621 % 2147483647 := dif_neg hj
        have hh : forL _ _ _ _ = some (Out.nx ⟨[_, _, .val .N (.int (seedM ns)), c'], []⟩) := hh
        simp [F_law_cell, hj', hi, hh, oMul_int b1, oMul_int b2, oMod_int, hc]
    · cases h2
  · cases h)
theorem len_law_cell : ∀ rs r, g_law_cell rs = some r → rs.length = 2 := gN_len (by intro rs d h; unfold h_law_cell at h; split at h <;> first | rfl | cases h)
theorem okt_law_cell : ∀ rs r, g_law_cell rs = some r → okT r.1 = true := gN_ok
theorem cell_bits {ns : List Int} (hn : LawOk ns) (k : Nat) (hk : k < 1000) : Builtin.Int.intBits (cellM ns k) ≤ 1048576 := by
  unfold cellM
  split
  · exact hn.2 _ (List.getElem_mem _)
  · exact Nat.le_trans (bits64 (by omega) (by omega)) (by decide)
theorem cif_some {α : Type} {p : Prop} {a : Option α} {b : α} (h : cif p a none = some b) : p ∧ a = some b := by
  unfold cif at h
  split at h
  · exact ⟨by assumption, h⟩
  · cases h
/-! _law_digits -/
def bigD : Int → List Int → List Int
  | _, [] => []
  | r, s :: ss => r % s :: bigD (r / s) ss
def restD : Int → List Int → Int
  | r, [] => r
  | r, s :: ss => restD (r / s) ss
def seedD (seed k : Int) : Int := (seed * 48271 + 974711 * k + 12345) % 2147483647
def twiceD (seed : Int) : Int := seed * (seed / 65537 + 3) % 2147483629
def smallD : Int → Int → List Int → List Int
  | _, _, [] => []
  | seed, k, s :: ss => twiceD (seedD seed k) / 19 % s :: smallD (seedD seed k) (k + 1) ss
def digitsM (c : Int) (ss : List Int) : List Int := if c ≥ 1000000000000000000 then bigD (c - 1000000000000000000) ss else smallD (c % 2147483629) 0 ss
def SizesOk (ss : List Int) : Prop := (∀ s ∈ ss, 0 < s ∧ s < 4611686018427387904) ∧ ss.length ≤ 10000
theorem bigD_get : ∀ (ss : List Int) (r : Int) (k : Nat) (hk : k < ss.length), (∀ s ∈ ss, 0 < s) → ∃ d, (bigD r ss)[k]? = some d ∧ 0 ≤ d ∧ d < ss[k]
  | s :: ss, r, 0, _, h => ⟨r % s, rfl, Int.emod_nonneg _ (by have := h s List.mem_cons_self; omega), Int.emod_lt_of_pos _ (h s List.mem_cons_self)⟩
  | s :: ss, r, k + 1, hk, h => by
    obtain ⟨d, e, h1⟩ := bigD_get ss (r / s) k (by simpa using hk) fun x hx => h x (List.mem_cons_of_mem _ hx)
    exact ⟨d, by simpa [bigD] using e, by simpa using h1⟩
theorem smallD_get : ∀ (ss : List Int) (r j : Int) (k : Nat) (hk : k < ss.length), (∀ s ∈ ss, 0 < s) → ∃ d, (smallD r j ss)[k]? = some d ∧ 0 ≤ d ∧ d < ss[k]
  | s :: ss, r, j, 0, _, h => ⟨_, rfl, Int.emod_nonneg _ (by have := h s List.mem_cons_self; omega), Int.emod_lt_of_pos _ (h s List.mem_cons_self)⟩
  | s :: ss, r, j, k + 1, hk, h => by
    obtain ⟨d, e, h1⟩ := smallD_get ss (seedD r j) (j + 1) k (by simpa using hk) fun x hx => h x (List.mem_cons_of_mem _ hx)
    exact ⟨d, by simpa [smallD] using e, by simpa using h1⟩
theorem bigD_len : ∀ (ss : List Int) (r : Int), (bigD r ss).length = ss.length
  | [], _ => rfl
  | _ :: ss, r => congrArg Nat.succ (bigD_len ss _)
theorem smallD_len : ∀ (ss : List Int) (r j : Int), (smallD r j ss).length = ss.length
  | [], _, _ => rfl
  | _ :: ss, r, j => congrArg Nat.succ (smallD_len ss _ _)
theorem digitsM_len (c : Int) (ss : List Int) : (digitsM c ss).length = ss.length := by
  unfold digitsM
  split
  · exact bigD_len ss _
  · exact smallD_len ss _ _
/-- each digit lies below its size -/
theorem digitsM_get {c : Int} {ss : List Int} (h : SizesOk ss) (k : Nat) (hk : k < ss.length) : ∃ d, (digitsM c ss)[k]? = some d ∧ 0 ≤ d ∧ d < ss[k] := by
  unfold digitsM
  split
  · exact bigD_get ss _ k hk fun s hs => (h.1 s hs).1
  · exact smallD_get ss _ _ k hk fun s hs => (h.1 s hs).1
noncomputable def h_law_digits (rs : List TD) : Option D := match rs with
  | [(_, .int c), (_, .lst ds)] => (intsOf ds).bind fun ss => cif (SizesOk ss) (some (.lst ((digitsM c ss).map D.int))) none
  | _ => none
noncomputable abbrev g_law_digits := gN h_law_digits
theorem g_law_digits_at {t u : Tg} {c : Int} {ss : List Int} (h : SizesOk ss) : g_law_digits [(t, .int c), (u, .lst (ss.map D.int))] = some (.N, .lst ((digitsM c ss).map D.int)) := by
  refine gN_of ?_
  unfold h_law_digits
  simp only [intsOf_map, Option.bind_some]
  exact cif_pos h
theorem len_law_digits : ∀ rs r, g_law_digits rs = some r → rs.length = 2 := gN_len (by intro rs d h; unfold h_law_digits at h; split at h <;> first | rfl | cases h)
theorem okt_law_digits : ∀ rs r, g_law_digits rs = some r → okT r.1 = true := gN_ok
abbrev N_law_digits : List Str := ["cell", "sizes", "row", "rest", "size", "seed", "k", "twice"]
noncomputable def B_law_digits_1 : FS := (sSeq (sApp 2 (sOp oMod (sB intB (sCons (sVar 3) sNil)) (sVar 4))) (sSet 3 (sOp oFd (sB intB (sCons (sVar 3) sNil)) (sVar 4))))
noncomputable def B_law_digits_2 : FS := (sSeq (sSet 5 (sOp oMod (sB intB (sCons (sOp oAdd (sOp oAdd (sOp oMul (sVar 5) (sLit (.int 48271))) (sOp oMul (sLit (.int 974711)) (sVar 6))) (sLit (.int 12345))) sNil)) (sLit (.int 2147483647)))) (sSeq (sSet 7 (sOp oMod (sB intB (sCons (sOp oMul (sVar 5) (sOp oAdd (sOp oFd (sVar 5) (sLit (.int 65537))) (sLit (.int 3)))) sNil)) (sLit (.int 2147483629)))) (sApp 2 (sOp oMod (sOp oFd (sVar 7) (sLit (.int 19))) (sOp oIx (sVar 1) (sVar 6))))))
noncomputable def F_law_digits : FS := (sSeq (sOwn 2 (sLd sNil)) (sSeq (sSet 3 (sB intB (sCons (sVar 0) sNil))) (sSeq (sIf (sBl (sOp oGe (sVar 3) (sOp oPow (sLit (.int 10)) (sLit (.int 18)))))
  (sSeq (sSet 3 (sOp oSub (sVar 3) (sOp oPow (sLit (.int 10)) (sLit (.int 18))))) (sSeq (sFor (sIt (sVar 1)) (setV 4)
  B_law_digits_1) (sRet (sVar 2))))
  sNx) (sSeq (sSet 5 (sOp oMod (sB intB (sCons (sVar 3) sNil)) (sLit (.int 2147483629)))) (sSeq (sFor (sR1 (sB lenB (sCons (sVar 1) sNil))) (setV 6)
  B_law_digits_2) (sRet (sVar 2)))))))
theorem dg_loop1 (C S s5 s6 s7 : Sl) : ∀ (ss : List Int) (r : Int) (row : List Int) (s4 : Sl), (∀ s ∈ ss, 0 < s ∧ s < 4611686018427387904) → row.length + ss.length ≤ lim →
    ∃ s4', forL B_law_digits_1 (setV 4) (ss.map fun s => (Tg.N, D.int s)) ⟨[C, S, .own (row.map D.int), .val .N (.int r), s4, s5, s6, s7], []⟩ = some (.nx ⟨[C, S, .own ((row ++ bigD r ss).map D.int), .val .N (.int (restD r ss)), s4', s5, s6, s7], []⟩)
  | [], r, row, s4, _, _ => ⟨s4, by simp [bigD, restD]⟩
  | s :: ss, r, row, s4, h, hl => by
    rw [List.length_cons] at hl
    obtain ⟨h0, h1⟩ := h s List.mem_cons_self
    obtain ⟨s4', e⟩ := dg_loop1 C S s5 s6 s7 ss (r / s) (row ++ [r % s]) (.val .N (.int s)) (fun x hx => h x (List.mem_cons_of_mem _ hx)) (by simp; omega)
    refine ⟨s4', ?_⟩
    have ha : (row.map D.int).length ≤ lim := by simp; omega
    have e2 : B_law_digits_1 ⟨[C, S, .own (row.map D.int), .val .N (.int r), .val .N (.int s), s5, s6, s7], []⟩ = some (.nx ⟨[C, S, .own ((row ++ [r % s]).map D.int), .val .N (.int (r / s)), .val .N (.int s), s5, s6, s7], []⟩) := by
      simp [B_law_digits_1, oMod_int h0, oFd_int (i := r) (j := s) ⟨h0, by omega⟩, appR_N ha]
    rw [List.map_cons, forL_step (e1 := ⟨[C, S, .own (row.map D.int), .val .N (.int r), .val .N (.int s), s5, s6, s7], []⟩) (by simp) e2, e]
    simp [bigD, restD]
theorem seedD_bd (s k : Int) : 0 ≤ seedD s k ∧ seedD s k < 2147483647 := by unfold seedD; omega
theorem dg_loop2 (C s3 s4 : Sl) {t : Tg} {ss : List Int} (h : SizesOk ss) : ∀ (m a : Nat) (seed : Int) (row : List Int) (s6 s7 : Sl), a + m = ss.length → 0 ≤ seed → seed < 4294967296 → row.length + m ≤ lim →
    ∃ s5' s6' s7', forL B_law_digits_2 (setV 6) ((List.range' a m).map fun (k : Nat) => (Tg.N, D.int (0 + (k : Int)))) ⟨[C, .val t (.lst (ss.map D.int)), .own (row.map D.int), s3, s4, .val .N (.int seed), s6, s7], []⟩ =
      some (.nx ⟨[C, .val t (.lst (ss.map D.int)), .own ((row ++ smallD seed a (ss.drop a)).map D.int), s3, s4, s5', s6', s7'], []⟩)
  | 0, a, seed, row, s6, s7, ha, _, _, _ => ⟨.val .N (.int seed), s6, s7, by
      rw [List.drop_eq_nil_of_le (by omega)]
      simp [smallD]⟩
  | m + 1, a, seed, row, s6, s7, ha, h0, h1, hl => by
    have hlt : a < ss.length := by omega
    obtain ⟨p0, p1⟩ := h.1 ss[a] (List.getElem_mem _)
    obtain ⟨q0, q1⟩ := seedD_bd seed a
    obtain ⟨s5', s6', s7', e⟩ := dg_loop2 C s3 s4 (t := t) h m (a + 1) (seedD seed a) (row ++ [twiceD (seedD seed a) / 19 % ss[a]]) (.val .N (.int (a : Int))) (.val .N (.int (twiceD (seedD seed a)))) (by omega) q0 (by omega) (by simp; omega)
    refine ⟨s5', s6', s7', ?_⟩
    have hal : (row.map D.int).length ≤ lim := by simp; omega
    have hlen : ss.length ≤ 10000 := h.2
    have b1 : bitsOk seed 48271 = true := bits_sm (by omega) (by omega) (by decide) (by decide)
    have b2 : bitsOk 974711 (a : Int) = true := bits_sm (by decide) (by decide) (by omega) (by omega)
    have b3 : bitsOk (seedD seed a) (seedD seed a / 65537 + 3) = true := bits_sm (by omega) (by omega) (by omega) (by omega)
    have hix : atI (ss.map D.int) (a : Int) = some (.int ss[a]) := atI_map hlt
    have d1 : (seed * 48271 + 974711 * (a : Int) + 12345) % 2147483647 = seedD seed a := rfl
    have d2 : seedD seed a * (seedD seed a / 65537 + 3) % 2147483629 = twiceD (seedD seed a) := rfl
    have e2 : B_law_digits_2 ⟨[C, .val t (.lst (ss.map D.int)), .own (row.map D.int), s3, s4, .val .N (.int seed), .val .N (.int (a : Int)), s7], []⟩ =
        some (.nx ⟨[C, .val t (.lst (ss.map D.int)), .own ((row ++ [twiceD (seedD seed a) / 19 % ss[a]]).map D.int), s3, s4, .val .N (.int (seedD seed a)), .val .N (.int (a : Int)), .val .N (.int (twiceD (seedD seed a)))], []⟩) := by
      unfold B_law_digits_2
      rw [sSeq_nx (e2 := ⟨[C, .val t (.lst (ss.map D.int)), .own (row.map D.int), s3, s4, .val .N (.int (seedD seed a)), .val .N (.int (a : Int)), s7], []⟩) (by simp [oMul_int b1, oMul_int b2, oMod_int, d1])]
      rw [sSeq_nx (e2 := ⟨[C, .val t (.lst (ss.map D.int)), .own (row.map D.int), s3, s4, .val .N (.int (seedD seed a)), .val .N (.int (a : Int)), .val .N (.int (twiceD (seedD seed a)))], []⟩) (by simp [oFd_int, oMul_int b3, oMod_int, d2])]
      simp [oFd_int, oIx_lst hix, oMod_int p0, appR_N hal]
    rw [List.range'_succ, List.map_cons, forL_step (e1 := ⟨[C, .val t (.lst (ss.map D.int)), .own (row.map D.int), s3, s4, .val .N (.int seed), .val .N (.int (a : Int)), s7], []⟩) (by simp) e2, e]
    rw [List.drop_eq_getElem_cons hlt]
    simp [smallD]
theorem sem_law_digits : ∀ rs r, rs.all (fun r => okT r.1) = true → g_law_digits rs = some r → (F_law_digits (env0 N_law_digits.length rs)).bind fin = some r := gN_sem (by
  intro rs d ha h
  unfold h_law_digits at h
  split at h
  · rename_i u c t ds
    obtain ⟨ss, h1, h2⟩ := Option.bind_eq_some_iff.mp h
    obtain ⟨hs, h3⟩ := cif_some h2
    cases h3
    have e := intsOf_some h1
    subst e
    simp only [List.all_cons, Bool.and_eq_true] at ha
    have hit : itemsOf (t, .lst (ss.map D.int)) = some (ss.map fun n => (Tg.N, D.int n)) := by
      cases t <;> first | exact Bool.noConfusion ha.2.1 | (simp [List.map_map, Function.comp_def])
    have hlen := hs.2
    have hp : oPow (Tg.N, D.int 10) (Tg.N, D.int 18) = some (.N, .int 1000000000000000000) := oPow_int ⟨by decide, by decide, by decide⟩
    unfold F_law_digits
    rw [sSeq_nx (e2 := ⟨[.val u (.int c), .val t (.lst (ss.map D.int)), .own ([].map D.int), .un, .un, .un, .un, .un], []⟩) (by simp [lim])]
    rw [sSeq_nx (e2 := ⟨[.val u (.int c), .val t (.lst (ss.map D.int)), .own ([].map D.int), .val .N (.int c), .un, .un, .un, .un], []⟩) (by simp)]
    by_cases hc : c ≥ 1000000000000000000
    · obtain ⟨s4', e⟩ := dg_loop1 (.val u (.int c)) (.val t (.lst (ss.map D.int))) .un .un .un ss (c - 1000000000000000000) [] .un hs.1 (by simp [lim]; omega)
      rw [sSeq_rt (r := (.O, .lst ((digitsM c ss).map D.int)))]
      · rfl
      · rw [sIf_t (by simp [hp]; exact hc)]
        rw [sSeq_nx (e2 := ⟨[.val u (.int c), .val t (.lst (ss.map D.int)), .own ([].map D.int), .val .N (.int (c - 1000000000000000000)), .un, .un, .un, .un], []⟩) (by simp [hp])]
        rw [sSeq_nx ((sFor_at (fi := sIt (sVar 1)) (items := ss.map fun n => (Tg.N, D.int n)) (by simp [hit])).trans e)]
        have : digitsM c ss = bigD (c - 1000000000000000000) ss := if_pos hc
        rw [this]
        simp
    · have hm0 : 0 ≤ c % 2147483629 := by omega
      have hm1 : c % 2147483629 < 4294967296 := by omega
      obtain ⟨s5', s6', s7', e⟩ := dg_loop2 (.val u (.int c)) (.val .N (.int c)) .un (t := t) hs ss.length 0 (c % 2147483629) [] .un .un (by omega) hm0 hm1 (by simp [lim]; omega)
      rw [sSeq_nx (A := sIf _ _ _) (e2 := ⟨[.val u (.int c), .val t (.lst (ss.map D.int)), .own ([].map D.int), .val .N (.int c), .un, .un, .un, .un], []⟩) (by rw [sIf_f (by simp [hp]; omega)]; rfl)]
      rw [sSeq_nx (e2 := ⟨[.val u (.int c), .val t (.lst (ss.map D.int)), .own ([].map D.int), .val .N (.int c), .un, .val .N (.int (c % 2147483629)), .un, .un], []⟩) (by simp [oMod_int])]
      have hr : r1K (Tg.N, D.int (ss.length : Int)) = some (iRng ss.length 0) := by
        rw [r1K_int (by omega)]
        rfl
      rw [sSeq_nx ((sFor_at (fi := sR1 _) (items := iRng ss.length 0) (by simp [hr])).trans (by unfold iRng; rw [List.range_eq_range']; exact e))]
      have : digitsM c ss = smallD (c % 2147483629) 0 ss := if_neg hc
      rw [this]
      simp
  · cases h)
end Lw
namespace Vf
open PySem L2
/-! equal data -/
theorem eqD_same {d : D} (h : pyOk d = true) (hc : (py d).canLay0 = true) (hd : (py d).depth ≤ 64) : eqD d d = some true := by
  have hs : SeqAt.shaped (py d) = true := Bool.and_eq_true_iff.mpr ⟨hc, decide_eq_true hd⟩
  have he : PyData.eqv (py d) (py d) = true := SeqAt.eqv_refl _ hc
  have g : (if pyOk d && pyOk d && SeqAt.shaped (py d) && SeqAt.shaped (py d) then some (PyData.eqv (py d) (py d)) else none) = some true := by
    rw [if_pos (by rw [h, hs]; rfl), he]
  cases d with
  | int i => simp
  | str x => simp
  | bl b => simp
  | non => rfl
  | lst xs => exact g
  | scr xs => exact g
  | tup xs => exact g
  | ins _ _ _ => exact g
  | dic _ _ => exact g
theorem py_ints : ∀ ns : List Int, pyOkL (ns.map D.int) = true ∧ PyData.canLayAll0 (pyL (ns.map D.int)) = true ∧ PyData.depthAll (pyL (ns.map D.int)) = 0
  | [] => ⟨rfl, rfl, rfl⟩
  | n :: ns => by
    obtain ⟨h1, h2, h3⟩ := py_ints ns
    refine ⟨?_, ?_, ?_⟩
    · show (pyOk (.int n) && pyOkL (ns.map D.int)) = true
      rw [h1]; simp [pyOk]
    · show PyData.canLayAll0 (.int n :: pyL (ns.map D.int)) = true
      rw [PyData.canLayAll0, h2]; simp [PyData.canLay0]
    · show PyData.depthAll (.int n :: pyL (ns.map D.int)) = 0
      rw [PyData.depthAll, h3]; simp [PyData.depth]
theorem eqD_ints (ns : List Int) : eqD (.lst (ns.map D.int)) (.lst (ns.map D.int)) = some true := by
  obtain ⟨h1, h2, h3⟩ := py_ints ns
  refine eqD_same (by rw [pyOk]; exact h1) (by rw [py, PyData.canLay0]; exact h2) (by rw [py, PyData.depth, h3]; decide)
theorem eqD_tints (ns : List Int) : eqD (.tup (ns.map D.int)) (.tup (ns.map D.int)) = some true := by
  obtain ⟨h1, h2, h3⟩ := py_ints ns
  refine eqD_same (by rw [pyOk]; exact h1) (by rw [py, PyData.canLay0]; exact h2) (by rw [py, PyData.depth, h3]; decide)
/-! slices, whiles, comprehensions -/
theorem cutD_nat (xs : List D) (a b : Nat) (hb : b ≤ xs.length) : cutD xs (some (a : Int)) (some (b : Int)) = (xs.drop a).take (b - a) := by
  unfold cutD
  rw [HT.sIx_nat, HT.sIx_nat, Nat.min_eq_left hb]
  by_cases h : a ≤ xs.length
  · rw [Nat.min_eq_left h]
  · rw [Nat.min_eq_right (by omega)]
    rw [List.drop_of_length_le (Nat.le_refl _), List.drop_of_length_le (by omega)]
    simp
theorem whL_f {c : FT} {A : FS} {env : Ev} (n : Nat) (h : c env = some false) : whL c A (n + 1) env = some (.nx env) := by
  unfold whL; rw [h]; rfl
theorem whL_t {c : FT} {A : FS} {env e2 : Ev} (n : Nat) (h : c env = some true) (h2 : A env = some (.nx e2)) : whL c A (n + 1) env = whL c A n e2 := by
  conv => lhs; unfold whL
  rw [h]
  show (A env).bind _ = _
  rw [h2]
  rfl
theorem forL_bk {A : FS} {s : TD → Ev → Option Ev} {r : TD} {rs : List TD} {env e1 e2 : Ev} (h1 : s r env = some e1) (h2 : A e1 = some (.bk e2)) : forL A s (r :: rs) env = some (.nx e2) := by
  rw [forL_cons, h1]
  show (A e1).bind _ = _
  rw [h2]
  rfl
theorem forL_rt {A : FS} {s : TD → Ev → Option Ev} {r r' : TD} {rs : List TD} {env e1 : Ev} (h1 : s r env = some e1) (h2 : A e1 = some (.rt r')) : forL A s (r :: rs) env = some (.rt r') := by
  rw [forL_cons, h1]
  show (A e1).bind _ = _
  rw [h2]
  rfl
@[simp] theorem lcL_nil {ct : FT} {fe : FE} {s : TD → Ev → Option Ev} {env : Ev} : lcL ct fe s env [] = some [] := rfl
/-- no item passes -/
theorem lcL_none {ct : FT} {fe : FE} {s : TD → Ev → Option Ev} {env : Ev} : ∀ {rs : List TD}, (∀ r ∈ rs, ∃ e, s r env = some e ∧ ct e = some false) → lcL ct fe s env rs = some []
  | [], _ => rfl
  | r :: rs, h => by
    obtain ⟨e, h1, h2⟩ := h r List.mem_cons_self
    unfold lcL
    rw [h1]
    show (ct e).bind _ = _
    rw [h2]
    exact lcL_none fun r' h' => h r' (List.mem_cons_of_mem _ h')
/-- each item passes and has this worth -/
theorem lcL_all {α : Type} {ct : FT} {fe : FE} {s : TD → Ev → Option Ev} {env : Ev} {f : α → TD} {g : α → D} : ∀ {xs : List α}, (∀ x ∈ xs, ∃ e, s (f x) env = some e ∧ ct e = some true ∧ fe e = some (.N, g x)) → lcL ct fe s env (xs.map f) = some (xs.map fun x => (.N, g x))
  | [], _ => rfl
  | x :: xs, h => by
    obtain ⟨e, h1, h2, h3⟩ := h x List.mem_cons_self
    rw [List.map_cons]
    unfold lcL
    rw [h1]
    show (ct e).bind _ = _
    rw [h2]
    show (fe e).bind _ = _
    rw [h3]
    show (lcL ct fe s env (xs.map f)).map _ = _
    rw [lcL_all fun r' h' => h r' (List.mem_cons_of_mem _ h')]
    rfl
end Vf
namespace Vf
open PySem L2
/-! all(list of bools), methods of texts -/
def boolsOf : List D → Option (List Bool)
  | [] => some []
  | .bl i :: r => (boolsOf r).map (i :: ·)
  | _ :: _ => none
theorem boolsOf_map : ∀ ns : List Bool, boolsOf (ns.map D.bl) = some ns
  | [] => rfl
  | n :: ns => by
    rw [List.map_cons]
    show (boolsOf (ns.map D.bl)).map (n :: ·) = _
    rw [boolsOf_map ns]
    rfl
theorem boolsOf_some : ∀ {ds : List D} {ns : List Bool}, boolsOf ds = some ns → ds = ns.map D.bl
  | [], ns, h => by cases h; rfl
  | d :: r, ns, h => by
    cases d with
    | bl i =>
      obtain ⟨ms, h1, rfl⟩ := Option.map_eq_some_iff.mp h
      rw [List.map_cons, boolsOf_some h1]
    | _ => cases h
def strsOf : List D → Option (List Str)
  | [] => some []
  | .str i :: r => (strsOf r).map (i :: ·)
  | _ :: _ => none
theorem strsOf_map : ∀ ns : List Str, strsOf (ns.map D.str) = some ns
  | [] => rfl
  | n :: ns => by
    rw [List.map_cons]
    show (strsOf (ns.map D.str)).map (n :: ·) = _
    rw [strsOf_map ns]
    rfl
theorem strsOf_some : ∀ {ds : List D} {ns : List Str}, strsOf ds = some ns → ds = ns.map D.str
  | [], ns, h => by cases h; rfl
  | d :: r, ns, h => by
    cases d with
    | str i =>
      obtain ⟨ms, h1, rfl⟩ := Option.map_eq_some_iff.mp h
      rw [List.map_cons, strsOf_some h1]
    | _ => cases h
theorem rp_bls {Z : Zc} {H : Hp} : ∀ {bs : List Bool} {vs : List V}, RpL Z H vs (bs.map D.bl) → vs = bs.map V.bl
  | [], _, h => by cases h; rfl
  | b :: bs, _, h => by
    rw [List.map_cons] at h
    cases h with
    | cons h r =>
      cases h
      rw [rp_bls r]
      rfl
theorem rp_strs {Z : Zc} {H : Hp} : ∀ {bs : List Str} {vs : List V}, RpL Z H vs (bs.map D.str) → vs = bs.map V.str
  | [], _, h => by cases h; rfl
  | b :: bs, _, h => by
    rw [List.map_cons] at h
    cases h with
    | cons h r =>
      cases h
      rw [rp_strs r]
      rfl
def allB (rs : List TD) : Option TD := match rs with
  | [a] => match a.2 with
    | .lst ds => (boolsOf ds).map fun bs => (.N, .bl (bs.all id))
    | _ => none
  | _ => none
def joinR (a b : TD) : Option TD := match a.2, b.2 with
  | .str x, .lst ds => (strsOf ds).bind fun ys => if (ys.map (·.length)).sum + ys.length * x.length ≤ 16777216 then some (.N, .str (Txt.join x ys)) else none
  | .str x, .tup ds => (strsOf ds).bind fun ys => if (ys.map (·.length)).sum + ys.length * x.length ≤ 16777216 then some (.N, .str (Txt.join x ys)) else none
  | _, _ => none
@[simp] def sM1 (o : TD → TD → Option TD) (f g : FE) : FE := fun env => (f env).bind fun a => (g env).bind fun b => o a b
@[simp] def sM0 (o : TD → Option TD) (f : FE) : FE := fun env => (f env).bind fun a => o a
def m0S (g : Str → D) (a : TD) : Option TD := match a.2 with
  | .str x => if x.length ≤ lim then some (.N, g x) else none
  | _ => none
def m1S (g : Str → Str → D) (a b : TD) : Option TD := match a.2, b.2 with
  | .str x, .str y => some (.N, g x y)
  | _, _ => none
section
variable {X : Cx} {cl : Str → Option Addr} {a b c o e : Expr} {es : List Expr} {f g h : FE} {fa : FA} {ct dt : FT} {apos pos : Pos}
theorem cr_allB (hX : XS X) : CallR X (.builtin "all") (rC (zx X cl) allB) := by
  rintro pins s σ H xs us Q I r ⟨w, rs, z, eH, hw, hr, ho, q⟩
  unfold allB at ho
  split at ho
  · rename_i a
    obtain ⟨t, d⟩ := a
    obtain ⟨v, rfl, hv⟩ := rvs1 hr
    dsimp only at ho
    subst eH
    split at ho
    · rename_i ds
      obtain ⟨bs, h1, rfl⟩ := Option.map_eq_some_iff.mp ho
      have e := boolsOf_some h1
      subst e
      obtain ⟨p, vs, rfl, h3, h4⟩ := hv.lst hw
      rw [rp_bls h4] at h3
      exact cr_all hX.calm pins s σ _ _ us Q I r ⟨p, bs, rfl, SqL.of h3, q _ w (Gr.refl hw) (nN (.bl _) rfl)⟩
    · cases ho
  · cases ho
theorem je_join (hX : XS X) (ho : PE X o (tE (zx X cl) f)) (he : PE X e (tE (zx X cl) g)) (hs : starEach [e] X.env = [(false, eval e X.env)] := by rfl) (hbase : attributeBase o "join" X.env (eval o X.env) = eval o X.env := by rfl) (hline : (apos.endLine == pos.line) = true := by rfl) :
    PE X (.Call (.Attribute o "join" apos) [e] [] pos) (tE (zx X cl) (sM1 joinR f g)) := by
  refine pe_w (pe_join ho he hs hbase hline) fun σ H Q ⟨env, w, r, e, k, hr, q⟩ => ?_
  subst e
  obtain ⟨⟨t, d⟩, h1, hr⟩ := Option.bind_eq_some_iff.mp hr
  obtain ⟨⟨t', d'⟩, h2, hr⟩ := Option.bind_eq_some_iff.mp hr
  unfold joinR at hr
  dsimp only at hr
  split at hr
  · rename_i x ds _
    obtain ⟨ys, h3, hr⟩ := Option.bind_eq_some_iff.mp hr
    split at hr
    · rename_i hl
      cases hr
      have e := strsOf_some h3
      subst e
      refine ⟨env, w, _, rfl, k, h1, fun v w1 g1 r1 => ⟨⟨x, rv_str g1.wf r1⟩, env, w1, _, rfl, k.mono g1, h2, fun u w2 g2 r2 => ?_⟩⟩
      obtain ⟨p, vs, rfl, h5, h6⟩ := r2.lst g2.wf
      rw [rp_strs h6] at h5
      exact ⟨x, p, ys, rv_str g1.wf r1, rfl, .inl (SqL.of h5), hl, q _ w2 (g1.trans g2) (nN (.str _) rfl)⟩
    · cases hr
  · rename_i x ds _
    obtain ⟨ys, h3, hr⟩ := Option.bind_eq_some_iff.mp hr
    split at hr
    · rename_i hl
      cases hr
      have e := strsOf_some h3
      subst e
      refine ⟨env, w, _, rfl, k, h1, fun v w1 g1 r1 => ⟨⟨x, rv_str g1.wf r1⟩, env, w1, _, rfl, k.mono g1, h2, fun u w2 g2 r2 => ?_⟩⟩
      obtain ⟨p, vs, rfl, h5, h6⟩ := r2.tup g2.wf
      rw [rp_strs h6] at h5
      exact ⟨x, p, ys, rv_str g1.wf r1, rfl, .inr h5, hl, q _ w2 (g1.trans g2) (nN (.str _) rfl)⟩
    · cases hr
  · cases hr
end
@[simp] theorem allB_at {t : Tg} {bs : List Bool} : allB [(t, .lst (bs.map D.bl))] = some (.N, .bl (bs.all id)) := by
  show (boolsOf (bs.map D.bl)).map _ = _
  rw [boolsOf_map]; rfl
theorem joinR_at {t u : Tg} {x : Str} {ys : List Str} (h : (ys.map (·.length)).sum + ys.length * x.length ≤ 16777216) : joinR (t, .str x) (u, .lst (ys.map D.str)) = some (.N, .str (Txt.join x ys)) := by
  show (strsOf (ys.map D.str)).bind _ = _
  rw [strsOf_map]
  exact if_pos h
end Vf
namespace Vf
open PySem L2
/-! defs that hand a new list back -/
@[simp] def sRetL (fl : FL) : FS := fun env => (fl env).bind fun r => if r.1 = .N then some (.rt (.O, .lst r.2)) else none
@[simp] def sCallL (g : List TD → Option (List D)) (fa : FA) : FL := fun env => (fa env).bind fun rs => (g (rs.map dn)).map fun ds => (.N, ds)
def spO (Z : Zc) (g : List TD → Option (List D)) : Sp := fun vs H Q _ => ∃ N rs ds, Same N H ∧ RVs Z ⟨N, H, H, []⟩ rs vs ∧ rs.all (fun r => okT r.1) = true ∧ g rs = some ds ∧
  ∀ p xs w', Gr ⟨N, H, H, []⟩ w' → H p = none → w'.H p = some (.lst xs) → w'.B p = none → RpL Z w'.N xs ds → Q (.ref p) w'.H
def finO (o : Out) : Option (List D) := match o with
  | .rt (.O, .lst ds) => some ds
  | _ => none
@[simp] theorem finO_rt {ds : List D} : finO (.rt (.O, .lst ds)) = some ds := rfl
theorem up_w {w w' : Wd} (hw : Wf w) (g : Gr ⟨w.N, w.H, w.H, []⟩ w') : ∃ w2, Gr w w2 ∧ w2.H = w'.H ∧ w2.N = w'.N ∧ ∀ x, w.B x = none → w'.N x = none → w2.B x = none := by
  have key : ∀ x o, w'.N x = some o → w.B x ≠ none → w.B x = some o := fun x o hx hb => by
    cases q : w.B x with
    | none => exact (hb q).elim
    | some u =>
      have h1 := g.h _ _ (hw.bh _ _ q)
      have h2 := g.wf.nh _ _ hx
      exact congrArg some (Option.some.inj (h1.symm.trans h2))
  let B2 : Hp := fun x => match w.B x with | some o => some o | none => w'.N x
  have b1 : Same w.B B2 := fun x o e => by show (match w.B x with | some o => some o | none => w'.N x) = _; rw [e]
  have b2 : Same w'.N B2 := fun x o e => by
    show (match w.B x with | some o => some o | none => w'.N x) = _
    cases q : w.B x with
    | none => exact e
    | some u => exact (q.symm.trans (key x o e (by rw [q]; exact fun z => nomatch z)))
  have b3 : Same B2 w'.H := fun x o e => by
    have e' : (match w.B x with | some o => some o | none => w'.N x) = some o := e
    cases q : w.B x with
    | none =>
      rw [q] at e'
      exact g.wf.nh _ _ e'
    | some u =>
      rw [q] at e'
      cases e'
      exact g.h _ _ (hw.bh _ _ q)
  have b4 : ∀ x, B2 x ≠ none → w.B x ≠ none ∨ w.H x = none := fun x e => by
    cases q : w.B x with
    | some u => exact .inl (fun z => nomatch z)
    | none =>
      have e' : w'.N x ≠ none := fun z => e (by show (match w.B x with | some o => some o | none => w'.N x) = _; rw [q]; exact z)
      rcases g.fn x e' with z | z
      · cases q2 : w.N x with
        | none => exact (z q2).elim
        | some u =>
          have := hw.nb _ _ q2
          rw [q] at this
          cases this
      · exact .inr z
  refine ⟨⟨w'.N, B2, w'.H, w.m⟩, ⟨⟨b2, b3⟩, g.n, b1, g.h, g.fn, b4, rfl⟩, rfl, rfl, fun x h1 h2 => ?_⟩
  show (match w.B x with | some o => some o | none => w'.N x) = _
  rw [h1]
  exact h2
theorem sCallL_rd {σ : L2.St} {H : Hp} {Q : VK} {Z : Zc} {E : XK} {fa : FA} {gg : List TD → Option (List D)} (hh : tL Z (sCallL gg fa) σ H Q) : tCall (spO Z gg) [] E (tA Z fa) σ H Q := by
  obtain ⟨env, w, t, ds, e, k, hr, ht, q⟩ := hh
  subst e
  obtain ⟨rs, h1, h2⟩ := Option.bind_eq_some_iff.mp hr
  obtain ⟨ds', h3, h4⟩ := Option.map_eq_some_iff.mp h2
  cases h4
  refine ⟨env, w, rs, rfl, k, h1, fun vs w1 g1 r1 => ?_⟩
  show spO Z gg (vs ++ []) w1.H Q E
  rw [List.append_nil]
  refine ⟨w1.N, rs.map dn, ds, g1.wf.nh, dn_rvs g1.wf r1, ?_, h3, fun p xs w' g2 hp hH hB r => ?_⟩
  · rw [List.all_map, List.all_eq_true]
    exact fun x _ => dn_ok x
  · obtain ⟨w2, g3, e3, e4, e5⟩ := up_w g1.wf g2
    rw [← e3]
    exact q p xs w2 (g1.trans g3) (g1.h.free hp) (by rw [e3]; exact hH) (e5 p (g1.wf.bh.free hp) (g2.wf.nb.free hB)) (by show RpL Z w2.N xs ds; rw [e4]; exact r)
structure CaO (P : Program) (w : World) (K : PySem.W.Frag) (mg : Str → Option Value) (base : Heap) (cl : Str → Option Addr) (k : Nat) (x : Str) (ps : List Str) (g : List TD → Option (List D)) : Prop where
  ex : ∃ f fd, FnOk P w K mg base CX0 k f fd ps (spO ⟨K, cl⟩ g) ∧ mg x = some (.ref f) ∧ PySem.W.keepIn K (.ref f) = true ∧ Binds K fd ps []
theorem CaO.mono {P : Program} {w : World} {K : PySem.W.Frag} {mg : Str → Option Value} {base : Heap} {cl : Str → Option Addr} {j k : Nat} {x : Str} {ps : List Str} {g : List TD → Option (List D)} (C : CaO P w K mg base cl j x ps g) (h : j ≤ k) : CaO P w K mg base cl k x ps g := by
  obtain ⟨f, fd, F, r⟩ := C.ex
  exact ⟨⟨f, fd, F.mono h, r⟩⟩
section
variable {X : Cx} {cl : Str → Option Addr} {a b c e : Expr} {es : List Expr} {kws : List Keyword} {fa : FA} {fl : FL} {pos : Pos} {ps : List Str} {gg : List TD → Option (List D)} {k j : Nat}
theorem js_retL (he : PE X e (tL (zx X cl) fl)) : PS X (.Return (some e) pos) (tS (zx X cl) (sRetL fl)) := by
  refine ps_w (ps_ret he) fun D σ H ⟨env, w, out, e, k, hr, q⟩ => ?_
  subst e
  obtain ⟨⟨t, ds⟩, h3, hr⟩ := Option.bind_eq_some_iff.mp hr
  dsimp only at hr
  split at hr
  · rename_i ht
    subst ht
    cases hr
    exact ⟨env, w, .N, ds, rfl, k, h3, by decide, fun p vs w' g1 hp hH hB r => q _ w' (g1.gs k.wf) ⟨p, vs, ds, rfl, rfl, hH, hB, r⟩⟩
  · cases hr
theorem jlc {x : Str} {p : Pos} (C : CaO X.prog X.w X.K X.mg X.base cl k x ps gg) (hr : Room j X.A) (ha : PA X (a :: es) (tA (zx X cl) fa)) (hkj : k ≤ j := by decide) (hg : Gl X x := by rfl) (hdb : (x == ("__debug__" : Str)) = false := by decide)
    (he : starEach (a :: es) X.env = (false, eval a X.env) :: starEach es X.env := by rfl) (hpl : (backTo pos (starEach es X.env)).any (·.1) = false := by rfl) : PE X (.Call (.Name x p) (a :: es) [] pos) (tL (zx X cl) (sCallL gg fa)) := by
  obtain ⟨f, fd, F, hm, hk, hb⟩ := C.ex
  exact pe_w (pe_call F (hr.mono hkj) hg hm hk hb .nil pass0 ha hdb he hpl) fun _ _ _ hh => sCallL_rd hh
theorem jlc0 {x : Str} {p : Pos} (C : CaO X.prog X.w X.K X.mg X.base cl k x ps gg) (hr : Room j X.A) (hkj : k ≤ j := by decide) (hg : Gl X x := by rfl) (hdb : (x == ("__debug__" : Str)) = false := by decide) : PE X (.Call (.Name x p) [] [] pos) (tL (zx X cl) (sCallL gg sNil)) := by
  obtain ⟨f, fd, F, hm, hk, hb⟩ := C.ex
  refine pe_w (pe_call0 F (hr.mono hkj) hg hm hk hb .nil pass0 hdb) fun σ H Q hh => ?_
  obtain ⟨env, w, rs, e, kk, h1, q⟩ := sCallL_rd (E := E0) hh
  subst e
  cases h1
  exact q [] w (Gr.refl kk.wf) trivial
end
section
variable {P : Program} {w : World} {K : PySem.W.Frag} {mg : Str → Option Value} {base : Heap} {cl : Str → Option Addr}
theorem ok_defO {x qual : Str} {st : Stmt} {f : Addr} {fd : FuncData} {N ps : List Str} {k : Nat} {g : List TD → Option (List D)} {B : FS} (F : Fun K x qual st f fd) (S : FnScope N ps (defScope st)) (har : ∀ rs r, g rs = some r → rs.length = ps.length)
    (hb : ∀ (cdv : Value) (A : Around) (outer : List Env) (s : Shared) (H : Hp) (E : XK), Room k (A.deeper (PyProof.Rows.envOfC qual (defScope st) s.heap.objs.size f cdv)) → XS (cxOf CX0 P w K mg base N qual (defScope st) f cdv A outer s H E).nox →
      PSs (cxOf CX0 P w K mg base N qual (defScope st) f cdv A outer s H E).nox (defBody st) (tS ⟨K, cl⟩ B))
    (hsem : ∀ rs r, rs.all (fun r => okT r.1) = true → g rs = some r → (B (env0 N.length rs)).bind finO = some r) : FnOk P w K mg base CX0 (k + 1) f fd ps (spO ⟨K, cl⟩ g) := by
  refine F.ok S (fun vs H Q E h => ?_) (fun cdv A outer s H vs Q E hr h => ?_)
  · obtain ⟨N', rs, r, _, h1, _, h2, _⟩ := h
    rw [h1.length, har _ _ h2]
  · obtain ⟨N', rs, r, h0, h1, h2, h3, q⟩ := h
    have hX : XS (cxOf CX0 P w K mg base N qual (defScope st) f cdv A outer s H E).nox := ⟨rfl, S.nd, by have := hr.un; show (A.deeper _).units + 65 < cLine; omega⟩
    refine ⟨_, hb cdv A outer s H E hr hX, ?_⟩
    obtain ⟨out, e1, e2⟩ := Option.bind_eq_some_iff.mp (hsem rs r h2 h3)
    have hle : rs.length ≤ N.length := by
      have := congrArg List.length S.pre
      rw [List.length_take] at this
      have := har _ _ h3
      omega
    refine ⟨env0 N.length rs, ⟨N', H, H, []⟩, out, rfl, wok_start h0 h1 h2 hle, e1, ?_⟩
    unfold finO at e2
    split at e2
    · cases e2
      intro v w' gs rv
      obtain ⟨p, vs', ds, rfl, ed, a1, a2, a3⟩ := rv
      cases ed
      exact q p vs' ⟨w'.N, w'.B, w'.H, []⟩ gs.gr (gs.b.free a2) a1 a2 a3
    · cases e2
theorem ca_defO {x : Str} {st : Stmt} {f : Addr} {fd : FuncData} {N ps : List Str} {k : Nat} {g : List TD → Option (List D)} {B : FS} (D : Df K mg x st f fd) (S : FnScope N ps (defScope st)) (har : ∀ rs r, g rs = some r → rs.length = ps.length)
    (hbi : Binds K fd ps [])
    (hb : ∀ (cdv : Value) (A : Around) (outer : List Env) (s : Shared) (H : Hp) (E : XK), Room k (A.deeper (PyProof.Rows.envOfC x (defScope st) s.heap.objs.size f cdv)) → XS (cxOf CX0 P w K mg base N x (defScope st) f cdv A outer s H E).nox →
      PSs (cxOf CX0 P w K mg base N x (defScope st) f cdv A outer s H E).nox (defBody st) (tS ⟨K, cl⟩ B))
    (hsem : ∀ rs r, rs.all (fun r => okT r.1) = true → g rs = some r → (B (env0 N.length rs)).bind finO = some r) : CaO P w K mg base cl (k + 1) x ps g :=
  ⟨⟨f, fd, ok_defO D.fn S har hb hsem, D.gm, D.fn.kp, hbi⟩⟩
end
/-! a def's worth, as its own body says -/
def gF (np n : Nat) (F : FS) (rs : List TD) : Option TD := if rs.length = np ∧ rs.all (fun r => okT r.1) = true then (F (env0 n rs)).bind fin else none
def gFO (np n : Nat) (F : FS) (rs : List TD) : Option (List D) := if rs.length = np ∧ rs.all (fun r => okT r.1) = true then (F (env0 n rs)).bind finO else none
theorem gF_at {np n : Nat} {F : FS} {rs : List TD} (h : rs.length = np) (h2 : rs.all (fun r => okT r.1) = true) : gF np n F rs = (F (env0 n rs)).bind fin := if_pos ⟨h, h2⟩
theorem gFO_at {np n : Nat} {F : FS} {rs : List TD} (h : rs.length = np) (h2 : rs.all (fun r => okT r.1) = true) : gFO np n F rs = (F (env0 n rs)).bind finO := if_pos ⟨h, h2⟩
theorem fin_ok {o : Out} {r : TD} (h : fin o = some r) : okT r.1 = true := by
  unfold fin at h
  split at h <;> cases h <;> rfl
theorem gF_ok {np n : Nat} {F : FS} (rs : List TD) (r : TD) (h : gF np n F rs = some r) : okT r.1 = true := by
  unfold gF at h
  split at h
  · obtain ⟨o, _, h2⟩ := Option.bind_eq_some_iff.mp h
    exact fin_ok h2
  · cases h
theorem gF_len {np n : Nat} {F : FS} (rs : List TD) (r : TD) (h : gF np n F rs = some r) : rs.length = np := by
  unfold gF at h
  split at h
  · rename_i hh
    exact hh.1
  · cases h
theorem gFO_len {np n : Nat} {F : FS} (rs : List TD) (r : List D) (h : gFO np n F rs = some r) : rs.length = np := by
  unfold gFO at h
  split at h
  · rename_i hh
    exact hh.1
  · cases h
theorem gF_sem {np n : Nat} {F : FS} (rs : List TD) (r : TD) (_ : rs.all (fun r => okT r.1) = true) (h : gF np n F rs = some r) : (F (env0 n rs)).bind fin = some r := by
  unfold gF at h
  split at h
  · exact h
  · cases h
theorem gFO_sem {np n : Nat} {F : FS} (rs : List TD) (r : List D) (_ : rs.all (fun r => okT r.1) = true) (h : gFO np n F rs = some r) : (F (env0 n rs)).bind finO = some r := by
  unfold gFO at h
  split at h
  · exact h
  · cases h
end Vf
namespace Vf
open PySem L2
/-! texts -/
theorem len_app (a b : Str) : (a ++ b).length = a.length + b.length := by
  show (a.cps ++ b.cps).size = _
  rw [Array.size_append]; rfl
theorem app_list (a b : Str) : (a ++ b).cps.toList = a.cps.toList ++ b.cps.toList := by
  show (a.cps ++ b.cps).toList = _
  rw [Array.toList_append]
theorem len_list (a : Str) : a.length = a.cps.toList.length := rfl
theorem cutS_len (z : Str) (lo hi : Option Int) : (cutS z lo hi).length ≤ z.length := by
  unfold cutS
  rw [len_list, List.toList_toArray]
  show _ ≤ z.cps.toList.length
  simp only [List.length_take, List.length_drop]
  show min _ (z.cps.toList.length - _) ≤ z.cps.toList.length
  omega
theorem join_len (ys : List Str) : (Txt.join Str.empty ys).length = (ys.map (·.length)).sum := by
  rw [TL.join_eq]
  induction ys with
  | nil => rfl
  | cons y ys ih =>
    cases ys with
    | nil => simp [Str.join]
    | cons x xs =>
      show (y ++ Str.empty ++ Str.join Str.empty (x :: xs)).length = _
      rw [len_app, len_app, ih]
      rfl
theorem sum_ones {α : Type} (f : α → Str) (xs : List α) (h : ∀ x ∈ xs, (f x).length = 1) : ((xs.map f).map (·.length)).sum = xs.length := by
  induction xs with
  | nil => rfl
  | cons x xs ih =>
    simp only [List.map_cons, List.sum_cons, List.length_cons]
    rw [ih fun y hy => h y (List.mem_cons_of_mem _ hy), h x List.mem_cons_self]
    omega
@[simp] theorem sign_len (c : Nat) : Str.length ⟨#[c]⟩ = 1 := rfl
theorem atI_pos {α : Type} {xs : List α} {k : Int} (h0 : 0 ≤ k) (h1 : k < xs.length) : ∃ x, atI xs k = some x ∧ x ∈ xs := by
  obtain ⟨j, rfl⟩ : ∃ j : Nat, k = (j : Int) := ⟨k.toNat, by omega⟩
  have hj : j < xs.length := by omega
  exact ⟨xs[j], atI_nat (List.getElem?_eq_getElem hj), List.getElem_mem hj⟩
@[simp] theorem iRng_len (n : Nat) (lo : Int) : (iRng n lo).length = n := by unfold iRng; simp
/-- each item passes and is worth some text -/
theorem lcL_strs {ct : FT} {fe : FE} {s : TD → Ev → Option Ev} {env : Ev} {p : Str → Prop} : ∀ {rs : List TD}, (∀ r ∈ rs, ∃ e, s r env = some e ∧ ct e = some true ∧ ∃ z, fe e = some (.N, .str z) ∧ p z) →
    ∃ zs : List Str, lcL ct fe s env rs = some (zs.map fun z => (Tg.N, D.str z)) ∧ zs.length = rs.length ∧ ∀ z ∈ zs, p z
  | [], _ => ⟨[], rfl, rfl, fun z h => by cases h⟩
  | r :: rs, h => by
    obtain ⟨e, h1, h2, z, h3, h4⟩ := h r List.mem_cons_self
    obtain ⟨zs, h5, h6, h7⟩ := lcL_strs fun r' h' => h r' (List.mem_cons_of_mem _ h')
    refine ⟨z :: zs, ?_, by simp [h6], fun y hy => (List.mem_cons.mp hy).elim (fun e => by rw [e]; exact h4) (h7 y)⟩
    unfold lcL
    rw [h1]
    show (ct e).bind _ = _
    rw [h2]
    show (fe e).bind _ = _
    rw [h3]
    show (lcL ct fe s env rs).map _ = _
    rw [h5]
    rfl
theorem tagL_strs (zs : List Str) : tagL (zs.map fun z => (Tg.N, D.str z)) = .N := tagL_N fun r hr => by
  obtain ⟨z, _, rfl⟩ := List.mem_map.mp hr
  rfl
theorem sum_one {zs : List Str} (h : ∀ z ∈ zs, z.length = 1) : (zs.map (·.length)).sum = zs.length := by
  have := sum_ones (fun z => z) zs h
  simpa using this
end Vf
namespace Vf
open PySem L2
/-! str(number), ord(sign), methods of texts, attributes of an instance that stands -/
noncomputable def strB (rs : List TD) : Option TD := match rs with
  | [a] => match a.2 with
    | .int i => cif (i.natAbs.log2 < 1920) (some (.N, .str (toString i))) none
    | .str x => some (.N, .str x)
    | _ => none
  | _ => none
def ordB (rs : List TD) : Option TD := match rs with
  | [a] => match a.2 with
    | .str x => if x.length = 1 then some (.N, .int (x.cps.getD 0 0 : Nat)) else none
    | _ => none
  | _ => none
def splitR (a b : TD) : Option (Tg × List D) := match a.2, b.2 with
  | .str x, .str y => if y.length ≠ 0 ∧ x.length ≤ lim then some (.N, (Txt.split x y).map D.str) else none
  | _, _ => none
@[simp] def sM1L (o : TD → TD → Option (Tg × List D)) (f g : FE) : FL := fun env => (f env).bind fun a => (g env).bind fun b => o a b
/-- e.f: the classes that have it -/
def fldR (cs : List Str) (n : Str) (a : TD) : Option TD := match a.2 with
  | .ins c fs ds => if c ∈ cs then ((fs.zip ds).lookup n).map fun d => nm (el a.1, d) else none
  | _ => none
structure FldOk (K : PySem.W.Frag) (cl : Str → Option Addr) (cs : List Str) (n : Str) : Prop where
  ok : ∀ c ∈ cs, ∀ C, cl c = some C → Cls K C ∧ NoAttr K C n
section
variable {X : Cx} {cl : Str → Option Addr} {a b c o e : Expr} {es : List Expr} {f g h : FE} {fa : FA} {ct dt : FT} {apos pos : Pos}
theorem cr_strB : CallR X (.type "str") (rC (zx X cl) strB) := by
  rintro pins s σ H xs us Q I r ⟨w, rs, z, eH, hw, hr, ho, q⟩
  unfold strB at ho
  split at ho
  · rename_i a
    obtain ⟨t, d⟩ := a
    obtain ⟨v, rfl, hv⟩ := rvs1 hr
    dsimp only at ho
    subst eH
    split at ho
    · unfold cif at ho
      split at ho
      · rename_i i hi
        cases ho
        exact call_str_int pins s σ _ _ us Q I r ⟨_, by rw [rv_int hw hv], hi, fin1 hw rfl (d := .str _) rfl q⟩
      · cases ho
    · cases ho
      exact SkE.call_str_str pins s σ _ _ us Q I r ⟨_, by rw [rv_str hw hv], fin1 hw rfl (d := .str _) rfl q⟩
    · cases ho
  · cases ho
theorem cr_ordB : CallR X (.builtin "ord") (rC (zx X cl) ordB) := by
  rintro pins s σ H xs us Q I r ⟨w, rs, z, eH, hw, hr, ho, q⟩
  unfold ordB at ho
  split at ho
  · rename_i a
    obtain ⟨t, d⟩ := a
    obtain ⟨v, rfl, hv⟩ := rvs1 hr
    dsimp only at ho
    subst eH
    split at ho
    · split at ho
      · rename_i x hx
        cases ho
        exact call_ord pins s σ _ _ us Q I r ⟨_, by rw [rv_str hw hv], hx, fin1 hw rfl (d := .int _) rfl q⟩
      · cases ho
    · cases ho
  · cases ho
theorem je_m1S {id : String} {name : Str} {gg : Str → Str → D} {gv : Str → Str → V} (slot : Slot "str" name id) (ty : typeOf (.builtin id) = pure (.type "method_descriptor")) (rule : MtR X id (fun x xs H Q => ∃ a b, x = .str a ∧ xs = [.str b] ∧ Q (gv a b) H))
    (hg : ∀ x y, isS (gg x y) = true ∧ vOf (gg x y) = gv x y) (ho : PE X o (tE (zx X cl) f)) (he : PE X e (tE (zx X cl) g))
    (hs : starEach [e] X.env = [(false, eval e X.env)] := by rfl) (hbase : attributeBase o name X.env (eval o X.env) = eval o X.env := by rfl) (hline : (apos.endLine == pos.line) = true := by rfl) :
    PE X (.Call (.Attribute o name apos) [e] [] pos) (tE (zx X cl) (sM1 (m1S gg) f g)) := by
  refine pe_w (pe_m1 slot ty rule ho he hs hbase hline) fun σ H Q ⟨env, w, r, e, k, hr, q⟩ => ?_
  subst e
  obtain ⟨⟨t, d⟩, h1, hr⟩ := Option.bind_eq_some_iff.mp hr
  obtain ⟨⟨t', d'⟩, h2, hr⟩ := Option.bind_eq_some_iff.mp hr
  unfold m1S at hr
  dsimp only at hr
  split at hr
  · cases hr
    refine ⟨env, w, _, rfl, k, h1, fun v w1 g1 r1 => ⟨⟨_, rv_str g1.wf r1⟩, env, w1, _, rfl, k.mono g1, h2, fun u w2 g2 r2 => ⟨_, _, rv_str g1.wf r1, congrArg (fun z => [z]) (rv_str g2.wf r2), ?_⟩⟩⟩
    rw [← (hg _ _).2]
    exact q _ w2 (g1.trans g2) (nN _ (hg _ _).1)
  · cases hr
theorem je_startswith (ho : PE X o (tE (zx X cl) f)) (he : PE X e (tE (zx X cl) g)) (hs : starEach [e] X.env = [(false, eval e X.env)] := by rfl) (hbase : attributeBase o "startswith" X.env (eval o X.env) = eval o X.env := by rfl) (hline : (apos.endLine == pos.line) = true := by rfl) :
    PE X (.Call (.Attribute o "startswith" apos) [e] [] pos) (tE (zx X cl) (sM1 (m1S fun x y => .bl (Txt.startswith x y)) f g)) :=
  je_m1S PySem.F.slot_str_startswith PySem.F.type_str_startswith mt_startswith (fun _ _ => ⟨rfl, rfl⟩) ho he hs hbase hline
theorem je_endswith (ho : PE X o (tE (zx X cl) f)) (he : PE X e (tE (zx X cl) g)) (hs : starEach [e] X.env = [(false, eval e X.env)] := by rfl) (hbase : attributeBase o "endswith" X.env (eval o X.env) = eval o X.env := by rfl) (hline : (apos.endLine == pos.line) = true := by rfl) :
    PE X (.Call (.Attribute o "endswith" apos) [e] [] pos) (tE (zx X cl) (sM1 (m1S fun x y => .bl (Txt.endswith x y)) f g)) :=
  je_m1S PySem.F.slot_str_endswith PySem.F.type_str_endswith mt_endswith (fun _ _ => ⟨rfl, rfl⟩) ho he hs hbase hline
theorem je_count (ho : PE X o (tE (zx X cl) f)) (he : PE X e (tE (zx X cl) g)) (hs : starEach [e] X.env = [(false, eval e X.env)] := by rfl) (hbase : attributeBase o "count" X.env (eval o X.env) = eval o X.env := by rfl) (hline : (apos.endLine == pos.line) = true := by rfl) :
    PE X (.Call (.Attribute o "count" apos) [e] [] pos) (tE (zx X cl) (sM1 (m1S fun x y => .int (Txt.count x y)) f g)) :=
  je_m1S PySem.F.slot_str_count PySem.F.type_str_count mt_count (fun _ _ => ⟨rfl, rfl⟩) ho he hs hbase hline
theorem rp_of_strs {Z : Zc} {H : Hp} : ∀ ys : List Str, RpL Z H (ys.map V.str) (ys.map D.str)
  | [] => .nil
  | y :: ys => .cons (.str y) (rp_of_strs ys)
theorem jl_split (ho : PE X o (tE (zx X cl) f)) (he : PE X e (tE (zx X cl) g)) (hs : starEach [e] X.env = [(false, eval e X.env)] := by rfl) (hbase : attributeBase o "split" X.env (eval o X.env) = eval o X.env := by rfl) (hline : (apos.endLine == pos.line) = true := by rfl) :
    PE X (.Call (.Attribute o "split" apos) [e] [] pos) (tL (zx X cl) (sM1L splitR f g)) := by
  refine pe_w (pe_split ho he hs hbase hline) fun σ H Q ⟨env, w, t, ds, e, k, hr, ht, q⟩ => ?_
  subst e
  obtain ⟨⟨t1, d⟩, h1, hr⟩ := Option.bind_eq_some_iff.mp hr
  obtain ⟨⟨t2, d'⟩, h2, hr⟩ := Option.bind_eq_some_iff.mp hr
  unfold splitR at hr
  dsimp only at hr
  split at hr
  · split at hr
    · rename_i x y _ hl
      cases hr
      refine ⟨env, w, _, rfl, k, h1, fun v w1 g1 r1 => ⟨⟨_, rv_str g1.wf r1⟩, env, w1, _, rfl, k.mono g1, h2, fun u w2 g2 r2 => ⟨_, _, rv_str g1.wf r1, congrArg (fun z => [z]) (rv_str g2.wf r2), ?_, ?_, ?_⟩⟩⟩
      · simpa using hl.1
      · rw [sizeLine_eq]
        have := hl.2
        unfold lim at this
        omega
      · have hQ : ∀ p vs w', Gr w2 w' → w2.H p = none → w'.H p = some (.lst vs) → w'.B p = none → RpL (zx X cl) (w'.rd .N) vs ((Txt.split x y).map D.str) → Q (.ref p) w'.H := fun p vs w' g3 hp => q p vs w' ((g1.trans g2).trans g3) (g1.h.free (g2.h.free hp))
        exact fun p hp => laid_new (t := .N) g2.wf hQ (rp_of_strs _) p hp
    · cases hr
  · cases hr
theorem lookup_rp {Z : Zc} {H : Hp} : ∀ {fs : List Str} {vs : List V} {ds : List D} {n : Str} {d : D}, RpL Z H vs ds → (fs.zip ds).lookup n = some d → ∃ v, (fs.zip vs).lookup n = some v ∧ Rp Z H v d
  | [], _, _, _, _, _, h => by simp at h
  | _ :: _, _, _, _, _, .nil, h => by simp at h
  | f :: fs, _, _, n, d, .cons (v := v) h1 r, h => by
    rw [List.zip_cons_cons, List.lookup_cons] at h
    rw [List.zip_cons_cons, List.lookup_cons]
    cases hq : n == f with
    | true =>
      rw [hq] at h
      cases h
      exact ⟨v, rfl, h1⟩
    | false =>
      rw [hq] at h
      exact lookup_rp r h
theorem RV.ins {Z : Zc} {w : Wd} (hw : Wf w) : ∀ {t : Tg} {c : Str} {fs : List Str} {ds : List D} {v : V}, RV Z w (t, .ins c fs ds) v → ∃ p C dx vs, v = .ref p ∧ w.H p = some (.ins C dx (fs.zip vs)) ∧ Z.cl c = some C ∧ vs.length = fs.length ∧ RpL Z (w.rd (el t)) vs ds
  | .N, _, _, _, _, h => by cases h with | ins h c l r => exact ⟨_, _, _, _, rfl, hw.nh _ _ h, c, l, r⟩
  | .B, _, _, _, _, h => by cases h with | ins h c l r => exact ⟨_, _, _, _, rfl, hw.bh _ _ h, c, l, r⟩
  | .T, _, _, _, _, h => by cases h with | ins h c l r => exact ⟨_, _, _, _, rfl, h, c, l, r⟩
  | .O, _, _, _, _, ⟨p, vs, ds, e, e2, h, b, r⟩ => nomatch e2
/-- e.f -/
theorem je_fld {cs : List Str} {n : Str} (F : FldOk X.K cl cs n) (he : PE X e (tE (zx X cl) f)) (hb : attributeBase e n X.env (eval e X.env) = eval e X.env := by rfl) : PE X (.Attribute e n pos) (tE (zx X cl) (sM0 (fldR cs n) f)) := by
  refine pe_w (pe_fld he hb) fun σ H Q ⟨env, w, r, e, k, hr, q⟩ => ?_
  subst e
  obtain ⟨⟨t, d⟩, h1, hr⟩ := Option.bind_eq_some_iff.mp hr
  unfold fldR at hr
  dsimp only at hr
  split at hr
  · rename_i c fs ds
    split at hr
    · rename_i hc
      obtain ⟨d, h2, rfl⟩ := Option.map_eq_some_iff.mp hr
      refine ⟨env, w, _, rfl, k, h1, fun v w1 g1 r1 => ?_⟩
      obtain ⟨p, C, dx, vs, rfl, h3, h4, h5, h6⟩ := r1.ins g1.wf
      obtain ⟨u, h7, h8⟩ := lookup_rp h6 h2
      obtain ⟨c1, c2⟩ := F.ok _ hc _ h4
      exact ⟨p, C, dx, _, u, rfl, h3, c1, c2, h7, q _ w1 g1 (RV.nm g1.wf (RV.of (el_ne t) h8))⟩
    · cases hr
  · cases hr
end
theorem fldR_at {cs : List Str} {n c : Str} {fs : List Str} {ds : List D} {d : D} {t : Tg} (hc : c ∈ cs) (h : (fs.zip ds).lookup n = some d) : fldR cs n (t, .ins c fs ds) = some (nm (el t, d)) := by
  show (if c ∈ cs then _ else _) = _
  rw [if_pos hc, h]
  rfl
end Vf
namespace Vf
open PySem L2
/-! objects that may change: the table, handles -/
abbrev FH := Ev → Option HV
def tH (Z : Zc) (f : FH) : TE := fun σ H Q => ∃ env w x, w.H = H ∧ Wok Z env σ w ∧ f env = some x ∧ ∀ v w', Gr w w' → HvOk Z w' v x → Q v w'.H
theorem HvsOk.length {Z : Zc} {w : Wd} : ∀ {vs : List V} {xs : List HV}, HvsOk Z w vs xs → vs.length = xs.length
  | [], [], _ => rfl
  | _ :: _, _ :: _, ⟨_, r⟩ => congrArg Nat.succ r.length
  | [], _ :: _, h => h.elim
  | _ :: _, [], h => h.elim
theorem HvsOk.get {Z : Zc} {w : Wd} : ∀ {vs : List V} {xs : List HV} {i : Nat} {x : HV}, HvsOk Z w vs xs → xs[i]? = some x → ∃ v, vs[i]? = some v ∧ HvOk Z w v x
  | [], [], _, _, _, e => by simp at e
  | _ :: _, _ :: _, 0, _, ⟨h, _⟩, e => by simp at e; subst e; exact ⟨_, rfl, h⟩
  | _ :: _, _ :: _, i + 1, _, ⟨_, r⟩, e => by simpa using r.get (i := i) (by simpa using e)
  | [], _ :: _, _, _, h, _ => h.elim
  | _ :: _, [], _, _, h, _ => h.elim
theorem HvsOk.app {Z : Zc} {w : Wd} : ∀ {vs us : List V} {xs ys : List HV}, HvsOk Z w vs xs → HvsOk Z w us ys → HvsOk Z w (vs ++ us) (xs ++ ys)
  | [], _, [], _, _, h => h
  | _ :: _, _, _ :: _, _, ⟨h, r⟩, q => ⟨h, r.app q⟩
  | [], _, _ :: _, _, h, _ => h.elim
  | _ :: _, _, [], _, h, _ => h.elim
theorem HvsOk.set {Z : Zc} {w : Wd} : ∀ {vs : List V} {xs : List HV} {v : V} {x : HV} (i : Nat), HvsOk Z w vs xs → HvOk Z w v x → HvsOk Z w (vs.set i v) (xs.set i x)
  | [], [], _, _, _, h, _ => h
  | _ :: _, _ :: _, _, _, 0, ⟨_, r⟩, q => ⟨q, r⟩
  | _ :: _, _ :: _, _, _, i + 1, ⟨h, r⟩, q => ⟨h, r.set i q⟩
  | [], _ :: _, _, _, _, h, _ => h.elim
  | _ :: _, [], _, _, _, h, _ => h.elim
theorem hvs_pu {Z : Zc} {w : Wd} : ∀ {vs : List V} {ds : List D}, RpL Z w.N vs ds → HvsOk Z w vs (ds.map .pu)
  | _, _, .nil => trivial
  | _, _, .cons h r => ⟨h, hvs_pu r⟩
/-- an object of the table changes -/
theorem Wok.tset {Z : Zc} {env : Ev} {σ : L2.St} {w : Wd} (k : Wok Z env σ w) {n : Nat} {M0 M : Mob} {a : Addr} {o : HO} (he : env.t[n]? = some (some M0)) (hm : w.m[n]? = some a) (hb : w.B a = none) (hM : MobOk Z ⟨w.N, w.B, upd w.H a o, w.m⟩ a M) :
    Wok Z ⟨env.s, env.t.set n (some M)⟩ σ ⟨w.N, w.B, upd w.H a o, w.m⟩ ∧ Gs w ⟨w.N, w.B, upd w.H a o, w.m⟩ := by
  have wf : Wf ⟨w.N, w.B, upd w.H a o, w.m⟩ := ⟨k.wf.nb, same_up1 k.wf.bh hb⟩
  have hn : n < env.t.length := (List.getElem?_eq_some_iff.mp he).1
  have ha := List.mem_of_getElem? hm
  refine ⟨⟨wf, k.len, fun i s e => ?_, k.dj, ?_⟩, ⟨wf, .refl _, .refl _, fun x q => .inl q, List.prefix_refl _, fun _ q => .inl q⟩⟩
  · obtain ⟨o', h1, h2⟩ := k.sl i s e
    refine ⟨o', h1, ?_⟩
    cases s with
    | un => exact trivial
    | val t d => exact h2
    | han j => exact h2
    | own ds =>
      obtain ⟨p, vs, e', h3, h4, h5, h6⟩ := h2
      have : p ≠ a := fun q => h5 (by rw [q]; exact ha)
      exact ⟨p, vs, e', by show upd w.H a o p = _; rw [upd_ne this]; exact h3, h4, h5, h6⟩
  · refine ⟨by rw [List.length_set]; exact k.tb.len, k.tb.nd, fun b hb' => ?_, fun j M' e => ?_⟩
    · show upd w.H a o b ≠ none
      by_cases q : b = a
      · subst q
        rw [upd_same]
        exact fun z => nomatch z
      · rw [upd_ne q]
        exact k.tb.hh b hb'
    · by_cases hj : n = j
      · subst hj
        rw [List.getElem?_set_self hn] at e
        cases e
        exact ⟨a, hm, hb, hM⟩
      · rw [List.getElem?_set_ne hj] at e
        obtain ⟨b, h1, h2, h3⟩ := k.tb.at_ j M' e
        have hne : b ≠ a := fun q => by
          subst q
          exact hj ((List.getElem?_inj (List.getElem?_eq_some_iff.mp hm).1 k.tb.nd).mp (hm.trans h1.symm))
        exact ⟨b, h1, h2, MobOk.mono (w := w) (w' := ⟨w.N, w.B, upd w.H a o, w.m⟩) (.refl _) (List.prefix_refl _) (fun o' q => by show upd w.H a o b = _; rw [upd_ne hne]; exact q) h3⟩
/-- an object of the table more -/
theorem Wok.tnew {Z : Zc} {env : Ev} {σ : L2.St} {w w' : Wd} (k : Wok Z env σ w) (g : Gr w w') {p : Addr} {o : HO} {M : Mob} (hp : w.H p = none) (h : w'.H p = some o) (hb : w'.B p = none) (hM : MobOk Z w' p M) :
    Wok Z ⟨env.s, env.t ++ [some M]⟩ σ ⟨w'.N, w'.B, w'.H, w'.m ++ [p]⟩ ∧ Gs w ⟨w'.N, w'.B, w'.H, w'.m ++ [p]⟩ := by
  have k' := k.mono g
  have hpm : p ∉ w.m := fun q => k.tb.hh p q hp
  have hpm' : p ∉ w'.m := by rw [g.m]; exact hpm
  have wf : Wf ⟨w'.N, w'.B, w'.H, w'.m ++ [p]⟩ := ⟨g.wf.nb, g.wf.bh⟩
  have px : w'.m <+: w'.m ++ [p] := List.prefix_append _ _
  refine ⟨⟨wf, k'.len, fun i s e => ?_, k'.dj, ?_⟩, ⟨wf, g.n, g.b, fun x q => (g.fn x q).imp id fun z => k.wf.bh.free z, by show w.m <+: w'.m ++ [p]; rw [g.m]; exact List.prefix_append _ _, fun x q => (List.mem_append.mp q).elim (fun z => .inl (by rw [← g.m]; exact z)) fun z => .inr (by rw [List.mem_singleton.mp z]; exact k.wf.bh.free hp)⟩⟩
  · obtain ⟨o', h1, h2⟩ := k'.sl i s e
    refine ⟨o', h1, ?_⟩
    cases s with
    | un => exact trivial
    | val t d => exact h2
    | han j =>
      obtain ⟨a, e1, e2⟩ := h2
      exact ⟨a, e1, by show (w'.m ++ [p])[j]? = _; rw [List.getElem?_append_left (List.getElem?_eq_some_iff.mp e2).1]; exact e2⟩
    | own ds =>
      obtain ⟨q, vs, e', h3, h4, h5, h6⟩ := h2
      refine ⟨q, vs, e', h3, h4, ?_, h6⟩
      show q ∉ w'.m ++ [p]
      intro z
      rcases List.mem_append.mp z with z | z
      · exact h5 z
      · have := List.mem_singleton.mp z
        subst this
        obtain ⟨o2, i1, i2⟩ := k.sl i _ e
        obtain ⟨q2, vs2, e2, i3, _⟩ := i2
        rw [h1] at i1
        cases i1
        rw [e'] at e2
        cases e2
        rw [hp] at i3
        cases i3
  · refine ⟨by show (env.t ++ [some M]).length = (w'.m ++ [p]).length; rw [List.length_append, List.length_append, k'.tb.len]; rfl, ?_, fun b hb' => ?_, fun j M' e => ?_⟩
    · show (w'.m ++ [p]).Nodup
      rw [List.nodup_append]
      exact ⟨k'.tb.nd, by simp, fun x hx y hy e => by rw [List.mem_singleton.mp hy] at e; subst e; exact hpm' hx⟩
    · show w'.H b ≠ none
      rcases List.mem_append.mp hb' with z | z
      · exact k'.tb.hh b z
      · rw [List.mem_singleton.mp z, h]
        exact fun z => nomatch z
    · have e : (env.t ++ [some M])[j]? = some (some M') := e
      by_cases hj : j < env.t.length
      · rw [List.getElem?_append_left hj] at e
        obtain ⟨a, h1, h2, h3⟩ := k'.tb.at_ j M' e
        exact ⟨a, by show (w'.m ++ [p])[j]? = _; rw [List.getElem?_append_left (List.getElem?_eq_some_iff.mp h1).1]; exact h1, h2, MobOk.mono (w := w') (w' := ⟨w'.N, w'.B, w'.H, w'.m ++ [p]⟩) (.refl _) px (fun _ q => q) h3⟩
      · rw [List.getElem?_append_right (by omega)] at e
        have h0 : j - env.t.length = 0 := by
          have := (List.getElem?_eq_some_iff.mp e).1
          simp at this
          omega
        rw [h0] at e
        cases e
        have hlen := k'.tb.len
        exact ⟨p, by show (w'.m ++ [p])[j]? = _; rw [List.getElem?_append_right (by omega), ← hlen, h0]; rfl, hb, MobOk.mono (w := w') (w' := ⟨w'.N, w'.B, w'.H, w'.m ++ [p]⟩) (.refl _) px (fun _ q => q) hM⟩
theorem Wok.setS {Z : Zc} {env : Ev} {σ : L2.St} {w : Wd} (k : Wok Z env σ w) {i : Nat} (hi : i < env.s.length) {x : Sl} {v : V} (hx : ∀ ds, x ≠ .own ds) (h : SlOk Z w (some v) x) : Wok Z (env.put i x) (σ.set i (some v)) w := by
  refine ⟨k.wf, by simpa using k.len, fun j s e => ?_, fun j j' ds es p hne e1 e2 e3 => ?_, k.tb⟩
  · by_cases hj : i = j
    · subst hj
      rw [List.getElem?_set_self hi] at e
      cases e
      exact ⟨some v, List.getElem?_set_self (by rw [k.len]; exact hi), h⟩
    · rw [List.getElem?_set_ne hj] at e
      obtain ⟨o, h1, h2⟩ := k.sl j s e
      exact ⟨o, by rw [List.getElem?_set_ne hj]; exact h1, h2⟩
  · have n1 : i ≠ j := fun q => by
      subst q
      rw [List.getElem?_set_self hi] at e1
      exact hx _ (Option.some.inj e1)
    have n2 : i ≠ j' := fun q => by
      subst q
      rw [List.getElem?_set_self hi] at e2
      exact hx _ (Option.some.inj e2)
    rw [List.getElem?_set_ne n1] at e1 e3
    rw [List.getElem?_set_ne n2] at e2 ⊢
    exact k.dj j j' ds es p hne e1 e2 e3
/-! readings of paths -/
def hVar (i : Nat) : FH := fun env => match env.s[i]? with
  | some (.han n) => some (.ob n)
  | some (.val .N d) => some (.pu d)
  | _ => none
@[simp] def hPu (f : FE) : FH := fun env => (f env).bind fun r => if r.1 = .N then some (.pu r.2) else none
def puD : HV → Option TD
  | .pu d => some (.N, d)
  | .ob _ => none
@[simp] def sOfH (h : FH) : FE := fun env => (h env).bind puD
def obIns (cs : List Str) (n : Str) (T : Tb) : HV → Option HV
  | .ob k => match T[k]? with
    | some (some (.ins c fs xs)) => if c ∈ cs then (fs.zip xs).lookup n else none
    | _ => none
  | .pu _ => none
@[simp] def hFld (cs : List Str) (n : Str) (h : FH) : FH := fun env => (h env).bind (obIns cs n env.t)
def obLst (T : Tb) : HV → Option (Nat × List HV)
  | .ob k => match T[k]? with
    | some (some (.lst xs)) => some (k, xs)
    | _ => none
  | .pu _ => none
def ixH (xs : List HV) (r : TD) : Option HV := match r.2 with | .int i => atI xs i | _ => none
@[simp] def hIx (h : FH) (g : FE) : FH := fun env => (h env).bind fun a => (obLst env.t a).bind fun q => (g env).bind (ixH q.2)
@[simp] def sLenH (h : FH) : FE := fun env => (h env).bind fun a => (obLst env.t a).map fun q => (.N, .int q.2.length)
def appH (env : Ev) (k : Nat) (xs : List HV) (x : HV) : Option Out := if xs.length ≤ lim then some (.nx ⟨env.s, env.t.set k (some (.lst (xs ++ [x])))⟩) else none
@[simp] def sAppH (h g : FH) : FS := fun env => (h env).bind fun a => (obLst env.t a).bind fun q => (g env).bind fun x => appH env q.1 q.2 x
def setHS (i : Nat) (x : HV) (env : Ev) : Option Ev := if i < env.s.length then some (match x with | .ob n => env.put i (.han n) | .pu d => env.put i (.val .N d)) else none
@[simp] def sSetH (i : Nat) (h : FH) : FS := fun env => (h env).bind fun x => (setHS i x env).map .nx
def newH (i : Nat) (env : Ev) (r : Tg × List D) : Option Out := if i < env.s.length then (match r.1 with
  | .N => some (.nx ⟨env.s.set i (.han env.t.length), env.t ++ [some (.lst (r.2.map .pu))]⟩)
  | _ => none) else none
@[simp] def sNewH (i : Nat) (f : FL) : FS := fun env => (f env).bind (newH i env)
theorem obLst_some {T : Tb} {x : HV} {k : Nat} {xs : List HV} (h : obLst T x = some (k, xs)) : x = .ob k ∧ T[k]? = some (some (.lst xs)) := by
  unfold obLst at h
  split at h
  · split at h
    · rename_i n _ ys e
      cases h
      exact ⟨rfl, e⟩
    · cases h
  · cases h
theorem ob_lst {Z : Zc} {T : Tb} {w : Wd} (t : TbOk Z T w) {k : Nat} {xs : List HV} {v : V} (hv : HvOk Z w v (.ob k)) (e : T[k]? = some (some (.lst xs))) : ∃ a vs, v = .ref a ∧ w.m[k]? = some a ∧ w.B a = none ∧ w.H a = some (.lst vs) ∧ HvsOk Z w vs xs := by
  obtain ⟨a, rfl, h1⟩ := hv
  obtain ⟨a', h2, h3, vs, h4, h5⟩ := t.at_ k _ e
  rw [h1] at h2
  cases h2
  exact ⟨a, vs, rfl, h1, h3, h4, h5⟩
section
variable {X : Cx} {cl : Str → Option Addr} {a b c e : Expr} {es : List Expr} {f g : FE} {h hh : FH} {fa : FA} {fl : FL} {ct : FT} {A B : FS} {pos : Pos} {st : Stmt} {rest body orelse : List Stmt}
theorem jh_var (i : Nat) {x : Str} {pos : Pos} (hN : X.N[i]? = some x := by rfl) (hv : Vis X.env.scope x := by first | exact Or.inl rfl | exact Or.inr (Or.inl rfl) | exact Or.inr (Or.inr rfl))
    (hd : (x == ("__debug__" : Str)) = false := by decide) (hcd : (x == ("__classdict__" : Str)) = false := by decide) : PE X (.Name x pos) (tH (zx X cl) (hVar i)) := by
  refine pe_w (pe_var (i := i) hN hv hd hcd) fun σ H Q ⟨env, w, r, e, k, hr, q⟩ => ?_
  subst e
  unfold hVar at hr
  split at hr
  · rename_i n he
    cases hr
    obtain ⟨o, ho, a, rfl, h1⟩ := k.sl i _ he
    exact ⟨_, ho, q _ w (Gr.refl k.wf) ⟨a, rfl, h1⟩⟩
  · rename_i d he
    cases hr
    obtain ⟨o, ho, v, rfl, hv⟩ := k.sl i _ he
    refine ⟨_, ho, q _ w (Gr.refl k.wf) ?_⟩
    rcases hv with ⟨_, hv⟩ | ⟨z, _⟩
    · exact hv
    · cases z
  · cases hr
theorem jh_pu (he : PE X e (tE (zx X cl) f)) : PE X e (tH (zx X cl) (hPu f)) := by
  refine pe_w he fun σ H Q ⟨env, w, r, e, k, hr, q⟩ => ?_
  obtain ⟨⟨t, d⟩, h1, h2⟩ := Option.bind_eq_some_iff.mp hr
  dsimp only at h2
  split at h2
  · rename_i ht
    subst ht
    cases h2
    exact ⟨env, w, _, e, k, h1, fun v w' g r => q v w' g r⟩
  · cases h2
theorem je_h (he : PE X e (tH (zx X cl) h)) : PE X e (tE (zx X cl) (sOfH h)) := by
  refine pe_w he fun σ H Q ⟨env, w, r, e, k, hr, q⟩ => ?_
  obtain ⟨x, h1, h2⟩ := Option.bind_eq_some_iff.mp hr
  cases x with
  | ob n => cases h2
  | pu d =>
    cases h2
    exact ⟨env, w, _, e, k, h1, fun v w' g r => q v w' g r⟩
theorem lookup_hv {Z : Zc} {w : Wd} : ∀ {fs : List Str} {vs : List V} {xs : List HV} {n : Str} {x : HV}, HvsOk Z w vs xs → (fs.zip xs).lookup n = some x → ∃ v, (fs.zip vs).lookup n = some v ∧ HvOk Z w v x
  | [], _, _, _, _, _, h => by simp at h
  | _ :: _, [], [], _, _, _, h => by simp at h
  | f :: fs, v :: vs, y :: xs, n, x, ⟨h1, r⟩, h => by
    rw [List.zip_cons_cons, List.lookup_cons] at h
    rw [List.zip_cons_cons, List.lookup_cons]
    cases hq : n == f with
    | true =>
      rw [hq] at h
      cases h
      exact ⟨v, rfl, h1⟩
    | false =>
      rw [hq] at h
      exact lookup_hv r h
  | _ :: _, [], _ :: _, _, _, h, _ => h.elim
  | _ :: _, _ :: _, [], _, _, h, _ => h.elim
/-- e.f of an object of the table -/
theorem jh_fld {cs : List Str} {n : Str} (F : FldOk X.K cl cs n) (he : PE X e (tH (zx X cl) h)) (hb : attributeBase e n X.env (eval e X.env) = eval e X.env := by rfl) : PE X (.Attribute e n pos) (tH (zx X cl) (hFld cs n h)) := by
  refine pe_w (pe_fld he hb) fun σ H Q ⟨env, w, r, e, k, hr, q⟩ => ?_
  subst e
  obtain ⟨x, h1, hr⟩ := Option.bind_eq_some_iff.mp hr
  unfold obIns at hr
  split at hr
  · split at hr
    · rename_i j _ c fs xs ej
      split at hr
      · rename_i hc
        refine ⟨env, w, _, rfl, k, h1, fun v w1 g1 hv => ?_⟩
        obtain ⟨a, rfl, h2⟩ := hv
        obtain ⟨a', h3, h4, C, dx, vs, h5, h6, h7, h8⟩ := (k.tb.mono g1).at_ _ _ ej
        rw [h2] at h3
        cases h3
        obtain ⟨u, h9, h10⟩ := lookup_hv h8 hr
        obtain ⟨c1, c2⟩ := F.ok _ hc _ h6
        exact ⟨a, C, dx, _, u, rfl, h5, c1, c2, h9, q u w1 g1 h10⟩
      · cases hr
    · cases hr
  · cases hr
theorem atI_hv {Z : Zc} {w : Wd} {vs : List V} {xs : List HV} {i : Int} {x : HV} (r : HvsOk Z w vs xs) (h : atI xs i = some x) : ∃ v, atI vs i = some v ∧ HvOk Z w v x := by
  unfold atI at h ⊢
  rw [r.length]
  obtain ⟨j, h1, h2⟩ := Option.bind_eq_some_iff.mp h
  obtain ⟨v, h3, h4⟩ := r.get h2
  exact ⟨v, by rw [h1]; exact h3, h4⟩
/-- e[i] of a list of the table -/
theorem jh_ix (ha : PE X a (tH (zx X cl) h)) (hb : PE X b (tE (zx X cl) g)) (hs : PlainIx b := by exact fun _ _ => rfl) : PE X (.Subscript a b pos) (tH (zx X cl) (hIx h g)) := by
  refine pe_w (pe_ix ix_list ha hb hs) fun σ H Q ⟨env, w, r, e, k, hr, q⟩ => ?_
  subst e
  obtain ⟨x, h1, hr⟩ := Option.bind_eq_some_iff.mp hr
  obtain ⟨⟨j, xs⟩, h2, hr2⟩ := Option.bind_eq_some_iff.mp hr
  obtain ⟨⟨t, d⟩, h3, hr3⟩ := Option.bind_eq_some_iff.mp hr2
  obtain ⟨rfl, ej⟩ := obLst_some h2
  have hq : ixH xs (t, d) = some r := hr3
  obtain ⟨i, rfl⟩ : ∃ i, d = .int i := by
    cases d with
    | int i => exact ⟨i, rfl⟩
    | _ => cases hq
  have hr : atI xs i = some r := hq
  · refine ⟨env, w, _, rfl, k, h1, fun v w1 g1 hv => ⟨env, w1, _, rfl, k.mono g1, h3, fun u w2 g2 r2 => ?_⟩⟩
    obtain ⟨a, vs, rfl, h4, h5, h6, h7⟩ := ob_lst ((k.tb.mono g1).mono g2) (hv.mono g2.n (by rw [g2.m]; exact List.prefix_refl _)) ej
    obtain ⟨y, h8, h9⟩ := atI_hv h7 hr
    exact ⟨a, vs, _, y, rfl, rv_int g2.wf r2, SqL.of h6, h8, q y w2 (g1.trans g2) h9⟩
/-- x = e, a path -/
theorem js_setH (i : Nat) {x : Str} {p' : Pos} (hX : XS X) (he : PE X e (tH (zx X cl) h)) (hi : X.N[i]? = some x := by rfl) (hx : Loc X.env.scope x := by first | exact Or.inl rfl | exact Or.inr rfl) (hs : swapsWith e (some (.Name x p')) pos.line X.env = pure false := by rfl)
    (hf : X.fn x = true ∨ X.env.scope.names.lookup x = some .local := by first | exact .inl rfl | exact .inr rfl) : PS X (.Assign [.Name x p'] e pos) (tS (zx X cl) (sSetH i h)) := by
  refine ps_w (ps_set hX.nd hi hx he hs hf) fun D σ H ⟨env, w, out, e, k, hr, q⟩ => ?_
  subst e
  obtain ⟨y, h1, hr⟩ := Option.bind_eq_some_iff.mp hr
  obtain ⟨e', h2, rfl⟩ := Option.map_eq_some_iff.mp hr
  unfold setHS at h2
  split at h2
  · rename_i hi
    cases h2
    refine ⟨env, w, y, rfl, k, h1, fun v w1 g1 hv => q _ w1 (g1.gs k.wf) ?_⟩
    cases y with
    | ob n => exact (k.mono g1).setS hi (fun _ z => nomatch z) (by obtain ⟨a, rfl, h3⟩ := hv; exact ⟨a, rfl, h3⟩)
    | pu d => exact (k.mono g1).setS hi (fun _ z => nomatch z) ⟨v, rfl, .inl ⟨rfl, hv⟩⟩
  · cases h2
/-- x = a new list that goes to the table -/
theorem js_newH (i : Nat) {x : Str} {p' : Pos} (hX : XS X) (he : PE X e (tL (zx X cl) fl)) (hi : X.N[i]? = some x := by rfl) (hx : Loc X.env.scope x := by first | exact Or.inl rfl | exact Or.inr rfl) (hs : swapsWith e (some (.Name x p')) pos.line X.env = pure false := by rfl)
    (hf : X.fn x = true ∨ X.env.scope.names.lookup x = some .local := by first | exact .inl rfl | exact .inr rfl) : PS X (.Assign [.Name x p'] e pos) (tS (zx X cl) (sNewH i fl)) := by
  refine ps_w (ps_set hX.nd hi hx he hs hf) fun D σ H ⟨env, w, out, e, k, hr, q⟩ => ?_
  subst e
  obtain ⟨⟨t, ds⟩, h1, hr⟩ := Option.bind_eq_some_iff.mp hr
  unfold newH at hr
  split at hr
  · rename_i hi
    dsimp only at hr
    split at hr
    · cases hr
      refine ⟨env, w, .N, ds, rfl, k, h1, by decide, fun p vs w1 g1 hp hH hB r => ?_⟩
      obtain ⟨k2, g2⟩ := k.tnew g1 (M := .lst (ds.map .pu)) hp hH hB ⟨vs, hH, hvs_pu r⟩
      have hlen := (k.mono g1).tb.len
      have k3 := k2.setS (i := i) (x := .han env.t.length) (v := .ref p) hi (fun _ z => nomatch z) ⟨p, rfl, by show (w1.m ++ [p])[env.t.length]? = _; rw [hlen, List.getElem?_append_right (Nat.le_refl _)]; simp⟩
      exact q _ ⟨w1.N, w1.B, w1.H, w1.m ++ [p]⟩ g2 k3
    · cases hr
  · cases hr
/-- e.append(g) -/
theorem js_appH {o : Expr} {apos cpos : Pos} (ho : PE X o (tH (zx X cl) h)) (he : PE X e (tH (zx X cl) hh)) (hbase : attributeBase o "append" X.env (eval o X.env) = eval o X.env := by rfl)
    (hline : (apos.endLine == cpos.line) = true := by rfl) (hs : starEach [e] X.env = (false, eval e X.env) :: starEach [] X.env := by rfl)
    (hfew : ((backTo cpos (starEach [e] X.env)).all (fun x => !x.1) && (backToKw cpos (keywordEach [] X.env)).all (fun x => x.1.isSome) && decide ([e].length + ([] : List Keyword).length + (if ([] : List Keyword).isEmpty then 0 else 1) < 30)) = true := by rfl) :
    PS X (.Expr (.Call (.Attribute o "append" apos) [e] [] cpos) pos) (tS (zx X cl) (sAppH h hh)) := by
  refine ps_w (ps_expr (pe_bm PySem.F.plainAttrs_list PySem.F.slot_list_append PySem.F.type_list_append mt_append ho (pa_cons he pa_nil hs) hbase hfew hline hs rfl)) fun D σ H ⟨env, w, out, e, k, hr, q⟩ => ?_
  subst e
  obtain ⟨x, h1, hr⟩ := Option.bind_eq_some_iff.mp hr
  obtain ⟨⟨j, xs⟩, h2, hr2⟩ := Option.bind_eq_some_iff.mp hr
  obtain ⟨y, h3, hr3⟩ := Option.bind_eq_some_iff.mp hr2
  obtain ⟨rfl, ej⟩ := obLst_some h2
  have hq : appH env j xs y = some out := hr3
  unfold appH at hq
  split at hq
  · rename_i hl
    cases hq
    refine ⟨env, w, _, rfl, k, h1, fun v w1 g1 hv => ?_⟩
    obtain ⟨a0, vs0, e0, _, _, h60, _⟩ := ob_lst (k.tb.mono g1) hv ej
    subst e0
    refine ⟨.inl ⟨rfl, _, SqL.of h60⟩, env, w1, y, rfl, k.mono g1, h3, fun u w2 g2 hu => ?_⟩
    have k2 := (k.mono g1).mono g2
    obtain ⟨a, vs, ea, h4, h5, h6, h7⟩ := ob_lst k2.tb (hv.mono g2.n (by rw [g2.m]; exact List.prefix_refl _)) ej
    cases ea
    obtain ⟨k3, g3⟩ := k2.tset (M := .lst (xs ++ [y])) (o := .lst (vs ++ [u])) ej h4 h5 ⟨_, upd_same, HvsOk.mono (w := w2) (w' := ⟨w2.N, w2.B, upd w2.H _ (.lst (vs ++ [u])), w2.m⟩) (.refl _) (List.prefix_refl _) (h7.app (us := [u]) (ys := [y]) ⟨hu, trivial⟩)⟩
    exact ⟨_, vs, u, rfl, rfl, h6, lim_lt (by rw [h7.length]; exact hl), q σ _ (((g1.trans g2).gs k.wf).trans g3) k3⟩
  · cases hq
end
end Vf
namespace Vf
open PySem L2
/-! defs that see the table -/
abbrev FAH := Ev → Option (List HV)
def tAH (Z : Zc) (f : FAH) : TA := fun σ H Q => ∃ env w xs, w.H = H ∧ Wok Z env σ w ∧ f env = some xs ∧ ∀ vs w', Gr w w' → HvsOk Z w' vs xs → Q vs w'.H
def spH (Z : Zc) (g : List HV → Tb → Option (HV × Tb)) : Sp := fun vs H Q _ => ∃ w xs T x T', w.H = H ∧ Wf w ∧ TbOk Z T w ∧ HvsOk Z w vs xs ∧ g xs T = some (x, T') ∧ ∀ v w', Gs w w' → HvOk Z w' v x → TbOk Z T' w' → Q v w'.H
@[simp] def hNil : FAH := fun _ => some []
@[simp] def hCons (f : FH) (g : FAH) : FAH := fun env => (f env).bind fun x => (g env).map fun xs => x :: xs
def slH : HV → Sl | .pu d => .val .N d | .ob n => .han n
def env0H (n : Nat) (xs : List HV) (T : Tb) : Ev := ⟨xs.map slH ++ List.replicate (n - xs.length) .un, T⟩
def finH (o : Out) : Option (HV × Tb) := match o with
  | .rth x T => some (x, T)
  | .nx e => some (.pu .non, e.t)
  | _ => none
@[simp] def sRetH (h : FH) : FS := fun env => (h env).map fun x => .rth x env.t
theorem wok_startH {Z : Zc} {w : Wd} {T : Tb} (hw : Wf w) (ht : TbOk Z T w) {names : List Str} {xs : List HV} {vs : List V} (h : HvsOk Z w vs xs) (hl : xs.length ≤ names.length) : Wok Z (env0H names.length xs T) (L2.start names vs) w := by
  have hvl := h.length
  refine ⟨hw, ?_, fun i s e => ?_, fun i j ds es p hne e1 e2 e3 => ?_, ht⟩
  · unfold L2.start env0H
    simp only [List.length_append, List.length_map, List.length_replicate]
    omega
  · unfold env0H at e
    dsimp only at e
    by_cases hi : i < xs.length
    · rw [List.getElem?_append_left (by rw [List.length_map]; exact hi), List.getElem?_map] at e
      obtain ⟨x, h1, rfl⟩ := Option.map_eq_some_iff.mp e
      obtain ⟨v, h2, h3⟩ := h.get h1
      refine ⟨some v, ?_, ?_⟩
      · unfold L2.start
        rw [List.getElem?_append_left (by rw [List.length_map]; omega), List.getElem?_map, h2]
        rfl
      · cases x with
        | pu d => exact ⟨v, rfl, .inl ⟨rfl, h3⟩⟩
        | ob n =>
          obtain ⟨a, rfl, h4⟩ := h3
          exact ⟨a, rfl, h4⟩
    · rw [List.getElem?_append_right (by rw [List.length_map]; omega)] at e
      have e2 := List.mem_of_getElem? e
      have e3 := List.eq_of_mem_replicate e2
      subst e3
      have hlt : i - (xs.map slH).length < names.length - xs.length := by
        have := (List.getElem?_eq_some_iff.mp e).1
        simpa using this
      rw [List.length_map] at hlt
      refine ⟨none, ?_, trivial⟩
      unfold L2.start
      rw [List.getElem?_append_right (by rw [List.length_map]; omega), List.length_map, List.getElem?_replicate]
      rw [if_pos (by omega)]
  · unfold env0H at e1
    dsimp only at e1
    rcases List.mem_append.mp (List.mem_of_getElem? e1) with z | z
    · obtain ⟨x, _, q⟩ := List.mem_map.mp z
      cases x <;> cases q
    · cases List.eq_of_mem_replicate z
section
variable {X : Cx} {cl : Str → Option Addr} {a b c e : Expr} {es : List Expr} {f g : FE} {h hh : FH} {fa : FAH} {fl : FL} {ct : FT} {A B : FS} {pos : Pos} {gg : List HV → Tb → Option (HV × Tb)} {ps : List Str} {k j : Nat}
theorem jah_nil : PA X [] (tAH (zx X cl) hNil) := ⟨fun ps pins s σ H Q I ⟨env, w, r, e, k, hr, q⟩ => pa_nil.run ps pins s σ H Q I (by
  subst e
  cases hr
  exact q [] w (Gr.refl k.wf) trivial)⟩
theorem jah_cons (ha : PE X e (tH (zx X cl) h)) (hr : PA X es (tAH (zx X cl) fa)) (hs : starEach (e :: es) X.env = (false, eval e X.env) :: starEach es X.env := by rfl) : PA X (e :: es) (tAH (zx X cl) (hCons h fa)) := by
  refine pa_w (pa_cons ha hr hs) fun σ H Q ⟨env, w, r, e, k, hq, q⟩ => ?_
  subst e
  obtain ⟨x, hx, hq⟩ := Option.bind_eq_some_iff.mp hq
  obtain ⟨xs, hxs, rfl⟩ := Option.map_eq_some_iff.mp hq
  exact ⟨env, w, x, rfl, k, hx, fun v w1 g1 r1 => ⟨env, w1, xs, rfl, k.mono g1, hxs, fun vs w2 g2 r2 => q _ w2 (g1.trans g2) ⟨r1.mono g2.n (by rw [g2.m]; exact List.prefix_refl _), r2⟩⟩⟩
theorem js_retH (he : PE X e (tH (zx X cl) h)) : PS X (.Return (some e) pos) (tS (zx X cl) (sRetH h)) := by
  refine ps_w (ps_ret he) fun D σ H ⟨env, w, out, e, k, hr, q⟩ => ?_
  subst e
  obtain ⟨x, h3, rfl⟩ := Option.map_eq_some_iff.mp hr
  exact ⟨env, w, x, rfl, k, h3, fun v w1 g1 r1 => q v w1 (g1.gs k.wf) r1 (k.mono g1).tb⟩
/-- back at the caller, whose own lists stand where they stood -/
theorem back_H {Z : Zc} {env : Ev} {σ : L2.St} {w1 : Wd} (k : Wok Z env σ w1) {Bc : Hp} (hB1 : ∀ a, a ∈ w1.m → Bc a = w1.B a) (hB2 : ∀ a, a ∉ w1.m → Bc a = w1.H a) {w' : Wd} (g : Gs ⟨w1.N, Bc, w1.H, w1.m⟩ w') {T' : Tb} (ht : TbOk Z T' w') {v : V} {x : HV} (hv : HvOk Z w' v x) :
    ∃ w2, w2.H = w'.H ∧ Gs w1 w2 ∧ Wok Z ⟨env.s, T'⟩ σ w2 ∧ HvOk Z w2 v x := by
  have hbb : Same w1.B Bc := fun a o e => by
    by_cases q : a ∈ w1.m
    · rw [hB1 a q]; exact e
    · rw [hB2 a q]; exact k.wf.bh _ _ e
  have hbw : Same w1.B w'.B := hbb.trans g.b
  let B2 : Hp := fun a => match w1.B a with | some o => some o | none => w'.N a
  have b1 : Same w1.B B2 := fun a o e => by show (match w1.B a with | some o => some o | none => w'.N a) = _; rw [e]
  have b2 : Same w'.N B2 := fun a o e => by
    show (match w1.B a with | some o => some o | none => w'.N a) = _
    cases q : w1.B a with
    | none => exact e
    | some u => exact (hbw _ _ q).symm.trans (g.wf.nb _ _ e)
  have b3 : Same B2 w'.H := fun a o e => by
    have e' : (match w1.B a with | some o => some o | none => w'.N a) = some o := e
    cases q : w1.B a with
    | none => rw [q] at e'; exact g.wf.nh _ _ e'
    | some u =>
      rw [q] at e'
      cases e'
      exact g.wf.bh _ _ (hbw _ _ q)
  have nf : ∀ a, w'.N a ≠ none → w1.N a ≠ none ∨ w1.B a = none := fun a z => (g.fn a z).imp id fun q => hbb.free q
  have b0 : ∀ a, w1.B a = none → w'.N a = none → B2 a = none := fun a z1 z2 => by
    show (match w1.B a with | some o => some o | none => w'.N a) = _
    rw [z1]
    exact z2
  refine ⟨⟨w'.N, B2, w'.H, w'.m⟩, rfl, ⟨⟨b2, b3⟩, g.n, b1, nf, g.m, fun a z => (g.mf a z).imp id fun q => hbb.free q⟩, ⟨⟨b2, b3⟩, k.len, fun i s e => ?_, k.dj, ?_⟩, ?_⟩
  · obtain ⟨o, h1, h2⟩ := k.sl i s e
    refine ⟨o, h1, ?_⟩
    cases s with
    | un => exact trivial
    | val t d =>
      obtain ⟨u, e1, e2⟩ := h2
      exact ⟨u, e1, e2.imp (fun ⟨x, y⟩ => ⟨x, Rp.mono g.n y⟩) fun ⟨x, y⟩ => ⟨x, Rp.mono b1 y⟩⟩
    | han n =>
      obtain ⟨a, e1, e2⟩ := h2
      refine ⟨a, e1, ?_⟩
      obtain ⟨l, hl⟩ := g.m
      show w'.m[n]? = _
      rw [← hl, List.getElem?_append_left (List.getElem?_eq_some_iff.mp e2).1]
      exact e2
    | own ds =>
      obtain ⟨p, vs, e1, h3, h4, h5, h6⟩ := h2
      have hb : Bc p = some (.lst vs) := (hB2 p h5).trans h3
      have hb' : w'.B p = some (.lst vs) := g.b _ _ hb
      have hn : w'.N p = none := by
        cases q : w'.N p with
        | none => rfl
        | some u =>
          rcases g.fn p (by rw [q]; exact fun z => nomatch z) with z | z
          · exact (z (k.wf.nb.free h4)).elim
          · have z : Bc p = none := z
            rw [hb] at z
            cases z
      refine ⟨p, vs, e1, g.wf.bh _ _ hb', b0 p h4 hn, fun z => ?_, RpL.mono g.n h6⟩
      rcases g.mf p z with z | z
      · exact h5 z
      · have z : Bc p = none := z
        rw [hb] at z
        cases z
  · refine ⟨ht.len, ht.nd, ht.hh, fun n M e => ?_⟩
    obtain ⟨a, h1, h2, h3⟩ := ht.at_ n M e
    exact ⟨a, h1, b0 a (hbw.free h2) (g.wf.nb.free h2), MobOk.mono (w := w') (w' := ⟨w'.N, B2, w'.H, w'.m⟩) (.refl _) (List.prefix_refl _) (fun _ z => z) h3⟩
  · exact HvOk.mono (w := w') (w' := ⟨w'.N, B2, w'.H, w'.m⟩) (.refl _) (List.prefix_refl _) hv
/-- a call that may change the table: its reading, behind it -/
def tK (Z : Zc) (gg : List HV → Tb → Option (HV × Tb)) (fa : FAH) (q : Ev → HV → St → V → Hp → Prop) (σ : L2.St) (H : Hp) : Prop := ∃ env w xs x T', w.H = H ∧ Wok Z env σ w ∧ fa env = some xs ∧ gg xs env.t = some (x, T') ∧
  ∀ v w', Gs w w' → Wok Z ⟨env.s, T'⟩ σ w' → HvOk Z w' v x → q ⟨env.s, T'⟩ x σ v w'.H
theorem tK_call {Z : Zc} {σ : L2.St} {H : Hp} {E : XK} {Q : VK} (hq : ∃ env w xs x T', w.H = H ∧ Wok Z env σ w ∧ fa env = some xs ∧ gg xs env.t = some (x, T') ∧ ∀ v w', Gs w w' → Wok Z ⟨env.s, T'⟩ σ w' → HvOk Z w' v x → Q v w'.H) : tCall (spH Z gg) [] E (tAH Z fa) σ H Q := by
  obtain ⟨env, w, xs, x, T', e, k, h1, h2, q⟩ := hq
  subst e
  refine ⟨env, w, xs, rfl, k, h1, fun vs w1 g1 hv => ?_⟩
  show spH Z gg (vs ++ []) w1.H Q E
  rw [List.append_nil]
  have k1 := k.mono g1
  have dec : ∀ a, Decidable (a ∈ w1.m) := fun a => Classical.propDecidable _
  let Bc : Hp := fun a => if a ∈ w1.m then w1.B a else w1.H a
  have hB1 : ∀ a, a ∈ w1.m → Bc a = w1.B a := fun a z => if_pos z
  have hB2 : ∀ a, a ∉ w1.m → Bc a = w1.H a := fun a z => if_neg z
  have wf : Wf ⟨w1.N, Bc, w1.H, w1.m⟩ := by
    refine ⟨fun a o e => ?_, fun a o e => ?_⟩
    · by_cases z : a ∈ w1.m
      · exact (hB1 a z).trans (k1.wf.nb _ _ e)
      · exact (hB2 a z).trans (k1.wf.nh _ _ e)
    · have e : Bc a = some o := e
      by_cases z : a ∈ w1.m
      · exact k1.wf.bh _ _ ((hB1 a z).symm.trans e)
      · exact (hB2 a z).symm.trans e
  have tb : TbOk Z env.t ⟨w1.N, Bc, w1.H, w1.m⟩ := ⟨k1.tb.len, k1.tb.nd, k1.tb.hh, fun n M e => by
    obtain ⟨a, h3, h4, h5⟩ := k1.tb.at_ n M e
    exact ⟨a, h3, (hB1 a (List.mem_of_getElem? h3)).trans h4, MobOk.mono (w := w1) (w' := ⟨w1.N, Bc, w1.H, w1.m⟩) (.refl _) (List.prefix_refl _) (fun _ z => z) h5⟩⟩
  refine ⟨⟨w1.N, Bc, w1.H, w1.m⟩, xs, env.t, x, T', rfl, wf, tb, HvsOk.mono (w := w1) (w' := ⟨w1.N, Bc, w1.H, w1.m⟩) (.refl _) (List.prefix_refl _) hv, h2, fun v w' g hx ht => ?_⟩
  obtain ⟨w2, e2, g2, k2, hx2⟩ := back_H k1 hB1 hB2 g ht hx
  rw [← e2]
  exact q v w2 ((g1.gs k.wf).trans g2) k2 hx2
structure CaH (P : Program) (w : World) (K : PySem.W.Frag) (mg : Str → Option Value) (base : Heap) (cl : Str → Option Addr) (k : Nat) (x : Str) (ps : List Str) (g : List HV → Tb → Option (HV × Tb)) : Prop where
  ex : ∃ f fd, FnOk P w K mg base CX0 k f fd ps (spH ⟨K, cl⟩ g) ∧ mg x = some (.ref f) ∧ PySem.W.keepIn K (.ref f) = true ∧ Binds K fd ps []
@[simp] def sCallSet (i : Nat) (gg : List HV → Tb → Option (HV × Tb)) (fa : FAH) : FS := fun env => (fa env).bind fun xs => (gg xs env.t).bind fun r => (setHS i r.1 ⟨env.s, r.2⟩).map .nx
@[simp] def sCallDo (gg : List HV → Tb → Option (HV × Tb)) (fa : FAH) : FS := fun env => (fa env).bind fun xs => (gg xs env.t).map fun r => .nx ⟨env.s, r.2⟩
@[simp] def sCallRet (gg : List HV → Tb → Option (HV × Tb)) (fa : FAH) : FS := fun env => (fa env).bind fun xs => (gg xs env.t).map fun r => .rth r.1 r.2
theorem setHS_ok {Z : Zc} {i : Nat} {env e' : Ev} {σ : L2.St} {w : Wd} {x : HV} {v : V} (k : Wok Z env σ w) (h : setHS i x env = some e') (hv : HvOk Z w v x) : Wok Z e' (σ.set i (some v)) w := by
  unfold setHS at h
  split at h
  · rename_i hi
    cases h
    cases x with
    | ob n => exact k.setS hi (fun _ z => nomatch z) (by obtain ⟨a, rfl, h3⟩ := hv; exact ⟨a, rfl, h3⟩)
    | pu d => exact k.setS hi (fun _ z => nomatch z) ⟨v, rfl, .inl ⟨rfl, hv⟩⟩
  · cases h
/-- x = f(..) -/
theorem js_callSet (i : Nat) {x fn : Str} {p p' cpos : Pos} (hX : XS X) (C : CaH X.prog X.w X.K X.mg X.base cl k fn ps gg) (hr : Room j X.A) (ha : PA X (a :: es) (tAH (zx X cl) fa)) (hkj : k ≤ j := by decide) (hg : Gl X fn := by rfl) (hdb : (fn == ("__debug__" : Str)) = false := by decide)
    (he : starEach (a :: es) X.env = (false, eval a X.env) :: starEach es X.env := by rfl) (hpl : (backTo cpos (starEach es X.env)).any (·.1) = false := by rfl)
    (hi : X.N[i]? = some x := by rfl) (hx : Loc X.env.scope x := by first | exact Or.inl rfl | exact Or.inr rfl) (hs : swapsWith (.Call (.Name fn p) (a :: es) [] cpos) (some (.Name x p')) pos.line X.env = pure false := by rfl)
    (hf : X.fn x = true ∨ X.env.scope.names.lookup x = some .local := by first | exact .inl rfl | exact .inr rfl) : PS X (.Assign [.Name x p'] (.Call (.Name fn p) (a :: es) [] cpos) pos) (tS (zx X cl) (sCallSet i gg fa)) := by
  obtain ⟨f, fd, F, hm, hk, hb⟩ := C.ex
  refine ps_w (ps_set hX.nd hi hx (pe_call F (hr.mono hkj) hg hm hk hb .nil pass0 ha hdb he hpl) hs hf) fun D σ H ⟨env, w, out, e, kk, hq, q⟩ => ?_
  subst e
  obtain ⟨xs, h1, hq⟩ := Option.bind_eq_some_iff.mp hq
  obtain ⟨⟨y, T'⟩, h2, hq⟩ := Option.bind_eq_some_iff.mp hq
  obtain ⟨e', h3, rfl⟩ := Option.map_eq_some_iff.mp hq
  exact tK_call ⟨env, w, xs, y, T', rfl, kk, h1, h2, fun v w' g2 k2 hv => q _ w' g2 (setHS_ok k2 h3 hv)⟩
/-- f(..), a statement -/
theorem js_callDo {fn : Str} {p cpos : Pos} (C : CaH X.prog X.w X.K X.mg X.base cl k fn ps gg) (hr : Room j X.A) (ha : PA X (a :: es) (tAH (zx X cl) fa)) (hkj : k ≤ j := by decide) (hg : Gl X fn := by rfl) (hdb : (fn == ("__debug__" : Str)) = false := by decide)
    (he : starEach (a :: es) X.env = (false, eval a X.env) :: starEach es X.env := by rfl) (hpl : (backTo cpos (starEach es X.env)).any (·.1) = false := by rfl)
    (hs : swapsWith (.Call (.Name fn p) (a :: es) [] cpos) none pos.line X.env = pure false := by rfl) : PS X (.Expr (.Call (.Name fn p) (a :: es) [] cpos) pos) (tS (zx X cl) (sCallDo gg fa)) := by
  obtain ⟨f, fd, F, hm, hk, hb⟩ := C.ex
  refine ps_w (ps_expr (pe_call F (hr.mono hkj) hg hm hk hb .nil pass0 ha hdb he hpl) hs) fun D σ H ⟨env, w, out, e, kk, hq, q⟩ => ?_
  subst e
  obtain ⟨xs, h1, hq⟩ := Option.bind_eq_some_iff.mp hq
  obtain ⟨⟨y, T'⟩, h2, rfl⟩ := Option.map_eq_some_iff.mp hq
  exact tK_call ⟨env, w, xs, y, T', rfl, kk, h1, h2, fun v w' g2 k2 _ => q σ w' g2 k2⟩
/-- return f(..) -/
theorem js_callRet {fn : Str} {p cpos : Pos} (C : CaH X.prog X.w X.K X.mg X.base cl k fn ps gg) (hr : Room j X.A) (ha : PA X (a :: es) (tAH (zx X cl) fa)) (hkj : k ≤ j := by decide) (hg : Gl X fn := by rfl) (hdb : (fn == ("__debug__" : Str)) = false := by decide)
    (he : starEach (a :: es) X.env = (false, eval a X.env) :: starEach es X.env := by rfl) (hpl : (backTo cpos (starEach es X.env)).any (·.1) = false := by rfl) : PS X (.Return (some (.Call (.Name fn p) (a :: es) [] cpos)) pos) (tS (zx X cl) (sCallRet gg fa)) := by
  obtain ⟨f, fd, F, hm, hk, hb⟩ := C.ex
  refine ps_w (ps_ret (pe_call F (hr.mono hkj) hg hm hk hb .nil pass0 ha hdb he hpl)) fun D σ H ⟨env, w, out, e, kk, hq, q⟩ => ?_
  subst e
  obtain ⟨xs, h1, hq⟩ := Option.bind_eq_some_iff.mp hq
  obtain ⟨⟨y, T'⟩, h2, rfl⟩ := Option.map_eq_some_iff.mp hq
  exact tK_call ⟨env, w, xs, y, T', rfl, kk, h1, h2, fun v w' g2 k2 hv => q v w' g2 hv k2.tb⟩
end
section
variable {P : Program} {w : World} {K : PySem.W.Frag} {mg : Str → Option Value} {base : Heap} {cl : Str → Option Addr}
theorem ok_defH {x qual : Str} {st : Stmt} {f : Addr} {fd : FuncData} {N ps : List Str} {k : Nat} {g : List HV → Tb → Option (HV × Tb)} {B : FS} (F : Fun K x qual st f fd) (S : FnScope N ps (defScope st)) (har : ∀ xs T r, g xs T = some r → xs.length = ps.length)
    (hb : ∀ (cdv : Value) (A : Around) (outer : List Env) (s : Shared) (H : Hp) (E : XK), Room k (A.deeper (PyProof.Rows.envOfC qual (defScope st) s.heap.objs.size f cdv)) → XS (cxOf CX0 P w K mg base N qual (defScope st) f cdv A outer s H E).nox →
      PSs (cxOf CX0 P w K mg base N qual (defScope st) f cdv A outer s H E).nox (defBody st) (tS ⟨K, cl⟩ B))
    (hsem : ∀ xs T r, g xs T = some r → (B (env0H N.length xs T)).bind finH = some r) : FnOk P w K mg base CX0 (k + 1) f fd ps (spH ⟨K, cl⟩ g) := by
  refine F.ok S (fun vs H Q E h => ?_) (fun cdv A outer s H vs Q E hr h => ?_)
  · obtain ⟨w0, xs, T, x, T', _, _, _, h1, h2, _⟩ := h
    rw [h1.length, har _ _ _ h2]
  · obtain ⟨w0, xs, T, x, T', rfl, hw, ht, h1, h2, q⟩ := h
    have hX : XS (cxOf CX0 P w K mg base N qual (defScope st) f cdv A outer s w0.H E).nox := ⟨rfl, S.nd, by have := hr.un; show (A.deeper _).units + 65 < cLine; omega⟩
    refine ⟨_, hb cdv A outer s w0.H E hr hX, ?_⟩
    obtain ⟨out, e1, e2⟩ := Option.bind_eq_some_iff.mp (hsem xs T _ h2)
    have hle : xs.length ≤ N.length := by
      have := congrArg List.length S.pre
      rw [List.length_take] at this
      have := har _ _ _ h2
      omega
    refine ⟨env0H N.length xs T, w0, out, rfl, wok_startH hw ht h1 hle, e1, ?_⟩
    unfold finH at e2
    split at e2
    · cases e2
      exact fun v w' gs hv tb => q v w' gs hv tb
    · cases e2
      exact fun σ' w' gs k' => q .non w' gs .non k'.tb
    · cases e2
theorem ca_defH {x : Str} {st : Stmt} {f : Addr} {fd : FuncData} {N ps : List Str} {k : Nat} {g : List HV → Tb → Option (HV × Tb)} {B : FS} (D : Df K mg x st f fd) (S : FnScope N ps (defScope st)) (har : ∀ xs T r, g xs T = some r → xs.length = ps.length)
    (hbi : Binds K fd ps [])
    (hb : ∀ (cdv : Value) (A : Around) (outer : List Env) (s : Shared) (H : Hp) (E : XK), Room k (A.deeper (PyProof.Rows.envOfC x (defScope st) s.heap.objs.size f cdv)) → XS (cxOf CX0 P w K mg base N x (defScope st) f cdv A outer s H E).nox →
      PSs (cxOf CX0 P w K mg base N x (defScope st) f cdv A outer s H E).nox (defBody st) (tS ⟨K, cl⟩ B))
    (hsem : ∀ xs T r, g xs T = some r → (B (env0H N.length xs T)).bind finH = some r) : CaH P w K mg base cl (k + 1) x ps g :=
  ⟨⟨f, fd, ok_defH D.fn S har hb hsem, D.gm, D.fn.kp, hbi⟩⟩
end
end Vf
namespace Vf
open PySem L2
/-! e.f = g; a new instance -/
def putG {α : Type} (n : Str) (x : α) : List Str → List α → List Str × List α
  | [], _ => ([n], [x])
  | f :: fs, [] => (f :: fs, [])
  | f :: fs, y :: ys => if f = n then (f :: fs, x :: ys) else (f :: (putG n x fs ys).1, y :: (putG n x fs ys).2)
theorem putG_F {n : Str} {v : V} : ∀ {fs : List Str} {vs : List V}, vs.length = fs.length → putF n v (fs.zip vs) = (putG n v fs vs).1.zip (putG n v fs vs).2
  | [], vs, _ => rfl
  | f :: fs, [], h => by simp at h
  | f :: fs, u :: vs, h => by
    have ih := putG_F (n := n) (v := v) (fs := fs) (vs := vs) (by simpa using h)
    rw [List.zip_cons_cons]
    show (if f = n then (f, v) :: fs.zip vs else (f, u) :: putF n v (fs.zip vs)) = _
    unfold putG
    by_cases q : f = n
    · rw [if_pos q, if_pos q]; rfl
    · rw [if_neg q, if_neg q, ih]; rfl
theorem putG_names {α β : Type} {n : Str} {x : α} {y : β} : ∀ {fs : List Str} {xs : List α} {ys : List β}, xs.length = fs.length → ys.length = fs.length → (putG n x fs xs).1 = (putG n y fs ys).1
  | [], _, _, _, _ => rfl
  | f :: fs, [], _, h, _ => by simp at h
  | f :: fs, _ :: _, [], _, h => by simp at h
  | f :: fs, a :: xs, b :: ys, h1, h2 => by
    have ih := putG_names (n := n) (x := x) (y := y) (fs := fs) (xs := xs) (ys := ys) (by simpa using h1) (by simpa using h2)
    unfold putG
    by_cases q : f = n
    · rw [if_pos q, if_pos q]
    · rw [if_neg q, if_neg q]
      show f :: _ = f :: _
      rw [ih]
theorem putG_len {α : Type} {n : Str} {x : α} : ∀ {fs : List Str} {xs : List α}, xs.length = fs.length → (putG n x fs xs).2.length = (putG n x fs xs).1.length
  | [], _, _ => rfl
  | f :: fs, [], h => by simp at h
  | f :: fs, a :: xs, h => by
    have ih := putG_len (n := n) (x := x) (fs := fs) (xs := xs) (by simpa using h)
    unfold putG
    by_cases q : f = n
    · rw [if_pos q]; simpa using h
    · rw [if_neg q]; simpa using ih
theorem putG_hv {Z : Zc} {w : Wd} {n : Str} {v : V} {x : HV} (hx : HvOk Z w v x) : ∀ {fs : List Str} {vs : List V} {xs : List HV}, HvsOk Z w vs xs → HvsOk Z w (putG n v fs vs).2 (putG n x fs xs).2
  | [], _, _, _ => ⟨hx, trivial⟩
  | f :: fs, [], [], _ => trivial
  | f :: fs, u :: vs, y :: xs, ⟨h1, h2⟩ => by
    unfold putG
    by_cases q : f = n
    · rw [if_pos q, if_pos q]; exact ⟨hx, h2⟩
    · rw [if_neg q, if_neg q]; exact ⟨h1, putG_hv hx h2⟩
  | _ :: _, [], _ :: _, h => h.elim
  | _ :: _, _ :: _, [], h => h.elim
def stoK (cs : List Str) (n : Str) (env : Ev) (x : HV) : HV → Option Out
  | .ob k => match env.t[k]? with
    | some (some (.ins c fs xs)) => if c ∈ cs ∧ fs.length < 1000 then some (.nx ⟨env.s, env.t.set k (some (.ins c (putG n x fs xs).1 (putG n x fs xs).2))⟩) else none
    | _ => none
  | .pu _ => none
/-- o.n = e -/
@[simp] def sSto (cs : List Str) (n : Str) (h g : FH) : FS := fun env => (g env).bind fun x => (h env).bind (stoK cs n env x)
/-- C(..): the number of the new object, the table behind __init__ -/
def mkK (c : Str) (gi : List HV → Tb → Option (HV × Tb)) (xs : List HV) (T : Tb) : Option Tb := (gi (.ob T.length :: xs) (T ++ [some (.ins c [] [])])).bind fun r => match r.1 with
  | .pu .non => some r.2
  | _ => none
@[simp] def sMkSet (i : Nat) (c : Str) (gi : List HV → Tb → Option (HV × Tb)) (fa : FAH) : FS := fun env => (fa env).bind fun xs => (mkK c gi xs env.t).bind fun T' => (setHS i (.ob env.t.length) ⟨env.s, T'⟩).map .nx
section
variable {X : Cx} {cl : Str → Option Addr} {a b c e o value : Expr} {es : List Expr} {f g : FE} {h hh : FH} {fa : FAH} {fl : FL} {ct : FT} {A B : FS} {pos pos' : Pos} {gg : List HV → Tb → Option (HV × Tb)} {ps : List Str} {k j : Nat}
theorem js_sto {cs : List Str} {n : Str} (F : FldOk X.K cl cs n) (ho : PE X o (tH (zx X cl) h)) (hv : PE X value (tH (zx X cl) hh)) (hs : swapsWith value (some (.Attribute o n pos')) pos.line X.env = pure false := by rfl) : PS X (.Assign [.Attribute o n pos'] value pos) (tS (zx X cl) (sSto cs n h hh)) := by
  refine ps_w (ps_fld ho hv hs) fun D σ H ⟨env, w, out, e, k, hr, q⟩ => ?_
  subst e
  obtain ⟨x, h1, hr1⟩ := Option.bind_eq_some_iff.mp hr
  obtain ⟨y, h2, hr2⟩ := Option.bind_eq_some_iff.mp hr1
  refine ⟨env, w, x, rfl, k, h1, fun v w1 g1 hx => ⟨env, w1, y, rfl, k.mono g1, h2, fun u w2 g2 hy => ?_⟩⟩
  have k2 := (k.mono g1).mono g2
  cases y with
  | pu d => cases hr2
  | ob m =>
    unfold stoK at hr2
    dsimp only at hr2
    split at hr2
    · rename_i c fs xs ej
      split at hr2
      · rename_i hc
        cases hr2
        obtain ⟨p, rfl, h3⟩ := hy
        obtain ⟨p', h4, h5, C, dx, vs, h6, h7, h8, h9⟩ := k2.tb.at_ _ _ ej
        rw [h3] at h4
        cases h4
        obtain ⟨c1, c2⟩ := F.ok _ hc.1 _ h7
        have hx2 := hx.mono g2.n (by rw [g2.m]; exact List.prefix_refl _)
        have e1 := putG_F (n := n) (v := v) h8
        have e2 : (putG n v fs vs).1 = (putG n x fs xs).1 := putG_names h8 (by rw [← h9.length]; exact h8)
        obtain ⟨k3, g3⟩ := k2.tset (M := .ins c (putG n x fs xs).1 (putG n x fs xs).2) (o := .ins C dx (putF n v (fs.zip vs))) ej h3 h5
          ⟨C, dx, (putG n v fs vs).2, by rw [e1, e2]; exact upd_same, h7, by rw [putG_len h8, e2], HvsOk.mono (w := w2) (w' := ⟨w2.N, w2.B, upd w2.H _ _, w2.m⟩) (.refl _) (List.prefix_refl _) (putG_hv hx2 h9)⟩
        exact ⟨p, C, dx, _, rfl, h6, c1, c2, by rw [List.length_zip, h8]; omega, q σ _ (((g1.trans g2).gs k.wf).trans g3) k3⟩
      · cases hr2
    · cases hr2
theorem spH_at {Z : Zc} {σ : L2.St} {E : XK} {Q : VK} {env : Ev} {w : Wd} {xs : List HV} {vs : List V} {x : HV} {T' : Tb} (k : Wok Z env σ w) (hv : HvsOk Z w vs xs) (h2 : gg xs env.t = some (x, T')) (q : ∀ v w', Gs w w' → Wok Z ⟨env.s, T'⟩ σ w' → HvOk Z w' v x → Q v w'.H) : spH Z gg vs w.H Q E := by
  have hc : tCall (spH Z gg) [] E (fun σ' H' Q' => Q' vs H') σ w.H Q := by
    show spH Z gg (vs ++ []) w.H Q E
    rw [List.append_nil]
    have dec : ∀ a, Decidable (a ∈ w.m) := fun a => Classical.propDecidable _
    let Bc : Hp := fun a => if a ∈ w.m then w.B a else w.H a
    have hB1 : ∀ a, a ∈ w.m → Bc a = w.B a := fun a z => if_pos z
    have hB2 : ∀ a, a ∉ w.m → Bc a = w.H a := fun a z => if_neg z
    have wf : Wf ⟨w.N, Bc, w.H, w.m⟩ := by
      refine ⟨fun a o e => ?_, fun a o e => ?_⟩
      · by_cases z : a ∈ w.m
        · exact (hB1 a z).trans (k.wf.nb _ _ e)
        · exact (hB2 a z).trans (k.wf.nh _ _ e)
      · have e : Bc a = some o := e
        by_cases z : a ∈ w.m
        · exact k.wf.bh _ _ ((hB1 a z).symm.trans e)
        · exact (hB2 a z).symm.trans e
    have tb : TbOk Z env.t ⟨w.N, Bc, w.H, w.m⟩ := ⟨k.tb.len, k.tb.nd, k.tb.hh, fun n M e => by
      obtain ⟨a, h3, h4, h5⟩ := k.tb.at_ n M e
      exact ⟨a, h3, (hB1 a (List.mem_of_getElem? h3)).trans h4, MobOk.mono (w := w) (w' := ⟨w.N, Bc, w.H, w.m⟩) (.refl _) (List.prefix_refl _) (fun _ z => z) h5⟩⟩
    refine ⟨⟨w.N, Bc, w.H, w.m⟩, xs, env.t, x, T', rfl, wf, tb, HvsOk.mono (w := w) (w' := ⟨w.N, Bc, w.H, w.m⟩) (.refl _) (List.prefix_refl _) hv, h2, fun v w' g hx ht => ?_⟩
    obtain ⟨w2, e2, g2, k2, hx2⟩ := back_H k hB1 hB2 g ht hx
    rw [← e2]
    exact q v w2 g2 k2 hx2
  have : spH Z gg (vs ++ []) w.H Q E := hc
  rw [List.append_nil] at this
  exact this
structure MaH (P : Program) (w : World) (K : PySem.W.Frag) (mg : Str → Option Value) (base : Heap) (cl : Str → Option Addr) (k : Nat) (c : Str) (ps : List Str) (g : List HV → Tb → Option (HV × Tb)) : Prop where
  ex : ∃ C f fd, Mk K C f ∧ FnOk P w K mg base CX0 k f fd ps (spH ⟨K, cl⟩ g) ∧ mg c = some (.ref C) ∧ cl c = some C ∧ Binds K fd ps []
/-- x = C(..) -/
theorem js_mkSet (i : Nat) {x c : Str} {p p' cpos : Pos} (hX : XS X) (M : MaH X.prog X.w X.K X.mg X.base cl k c ps gg) (hr : Room j X.A) (ha : PA X (a :: es) (tAH (zx X cl) fa)) (hkj : k + 1 ≤ j := by decide) (hg : Gl X c := by rfl) (hdb : (c == ("__debug__" : Str)) = false := by decide)
    (he : starEach (a :: es) X.env = (false, eval a X.env) :: starEach es X.env := by rfl) (hpl : (backTo cpos (starEach es X.env)).any (·.1) = false := by rfl)
    (hi : X.N[i]? = some x := by rfl) (hx : Loc X.env.scope x := by first | exact Or.inl rfl | exact Or.inr rfl) (hs : swapsWith (.Call (.Name c p) (a :: es) [] cpos) (some (.Name x p')) pos.line X.env = pure false := by rfl)
    (hf : X.fn x = true ∨ X.env.scope.names.lookup x = some .local := by first | exact .inl rfl | exact .inr rfl) : PS X (.Assign [.Name x p'] (.Call (.Name c p) (a :: es) [] cpos) pos) (tS (zx X cl) (sMkSet i c gg fa)) := by
  obtain ⟨C, f, fd, mk, F, hm, hcl, hb⟩ := M.ex
  refine ps_w (ps_set hX.nd hi hx (pe_make mk F (hr.mono hkj) hg hm hb .nil pass0 ha hdb he hpl) hs hf) fun D σ H ⟨env, w, out, e, kk, hq, q⟩ => ?_
  subst e
  obtain ⟨xs, h1, hq1⟩ := Option.bind_eq_some_iff.mp hq
  obtain ⟨T', h2, hq2⟩ := Option.bind_eq_some_iff.mp hq1
  obtain ⟨e', h3, rfl⟩ := Option.map_eq_some_iff.mp hq2
  unfold mkK at h2
  obtain ⟨⟨r, T2⟩, h4, h5⟩ := Option.bind_eq_some_iff.mp h2
  dsimp only at h5
  split at h5
  · cases h5
    refine ⟨env, w, xs, rfl, kk, h1, fun vs w1 g1 hv px dx hpx hdx hne => ?_⟩
    have k1 := kk.mono g1
    have hn : upd w1.H dx (.own px) px = none := by rw [upd_ne (fun z => hne z.symm)]; exact hpx
    have gH : Same w1.H (upd (upd w1.H dx (.own px)) px (.ins C dx [])) := (same_up hdx).trans (same_up hn)
    have g2 : Gr w1 ⟨w1.N, w1.B, upd (upd w1.H dx (.own px)) px (.ins C dx []), w1.m⟩ := ⟨⟨k1.wf.nb, k1.wf.bh.trans gH⟩, .refl _, .refl _, gH, fun _ z => .inl z, fun _ z => .inl z, rfl⟩
    obtain ⟨k2, g3⟩ := k1.tnew g2 (p := px) (o := .ins C dx []) (M := .ins c [] []) hpx upd_same (k1.wf.bh.free hpx) ⟨C, dx, [], upd_same, hcl, rfl, trivial⟩
    have hself : HvOk (zx X cl) ⟨w1.N, w1.B, upd (upd w1.H dx (.own px)) px (.ins C dx []), w1.m ++ [px]⟩ (.ref px) (.ob env.t.length) := ⟨px, rfl, by
      have hlen := k1.tb.len
      show (w1.m ++ [px])[env.t.length]? = _
      rw [hlen, List.getElem?_append_right (Nat.le_refl _)]
      simp⟩
    rw [List.append_nil]
    refine spH_at (w := ⟨w1.N, w1.B, upd (upd w1.H dx (.own px)) px (.ins C dx []), w1.m ++ [px]⟩) k2 (xs := .ob env.t.length :: xs) ⟨hself, HvsOk.mono (w := w1) (w' := ⟨w1.N, w1.B, upd (upd w1.H dx (.own px)) px (.ins C dx []), w1.m ++ [px]⟩) (.refl _) (List.prefix_append _ _) hv⟩ h4 fun v w' g4 k4 hnon => ⟨?_, ?_⟩
    · exact rp_val (d := .non) rfl hnon
    · refine q _ w' (((g1.gs kk.wf).trans g3).trans g4) (setHS_ok k4 h3 ?_)
      exact hself.mono g4.n g4.m
  · cases h5
end
end Vf
namespace Vf
open PySem L2
/-! methods of the program's classes -/
/-- the class and the variables of an object -/
def insOf (T : Tb) : HV → Option (Str × List Str)
  | .ob k => match T[k]? with
    | some (some (.ins c fs _)) => some (c, fs)
    | _ => none
  | .pu (.ins c fs _) => some (c, fs)
  | .pu _ => none
theorem insOf_ok {Z : Zc} {T : Tb} {w : Wd} (hw : Wf w) (t : TbOk Z T w) {x : HV} {v : V} {c : Str} {fs : List Str} (hv : HvOk Z w v x) (e : insOf T x = some (c, fs)) : ∃ a C dx vs, v = .ref a ∧ w.H a = some (.ins C dx (fs.zip vs)) ∧ Z.cl c = some C := by
  cases x with
  | ob k =>
    unfold insOf at e
    dsimp only at e
    split at e
    · rename_i ej
      cases e
      obtain ⟨a, rfl, h1⟩ := hv
      obtain ⟨a', h2, h3, C, dx, vs, h4, h5, h6, h7⟩ := t.at_ k _ ej
      rw [h1] at h2
      cases h2
      exact ⟨a, C, dx, vs, rfl, h4, h5⟩
    · cases e
  | pu d =>
    cases d with
    | ins c' fs' ds =>
      cases e
      obtain ⟨p, C, dx, vs, e1, h1, h2, h3, h4⟩ := RV.ins (t := .N) hw hv
      exact ⟨p, C, dx, vs, e1, h1, h2⟩
    | _ => cases e
theorem lookup_no {fs : List Str} {m : Str} : ∀ {vs : List V}, m ∉ fs → (fs.zip vs).lookup m = none := by
  induction fs with
  | nil => intro vs _; rfl
  | cons f fs ih =>
    intro vs h
    cases vs with
    | nil => rfl
    | cons v vs =>
      rw [List.zip_cons_cons, List.lookup_cons]
      have : (m == f) = false := beq_eq_false_iff_ne.mpr fun e => h (by rw [e]; exact List.mem_cons_self)
      rw [this]
      exact ih fun z => h (List.mem_cons_of_mem _ z)
structure MeH (P : Program) (w : World) (K : PySem.W.Frag) (mg : Str → Option Value) (base : Heap) (cl : Str → Option Addr) (k : Nat) (c m : Str) (ps : List Str) (g : List HV → Tb → Option (HV × Tb)) : Prop where
  ex : ∃ C f fd, Cls K C ∧ Meth K C m f ∧ FnOk P w K mg base CX0 k f fd ps (spH ⟨K, cl⟩ g) ∧ cl c = some C ∧ Binds K fd ps []
/-- what o.m(..) is worth -/
def methK (c m : Str) (gg : List HV → Tb → Option (HV × Tb)) (T : Tb) (x : HV) (xs : List HV) : Option (HV × Tb) := (insOf T x).bind fun q => if q.1 = c ∧ m ∉ q.2 then gg (x :: xs) T else none
@[simp] def sMeth (c m : Str) (gg : List HV → Tb → Option (HV × Tb)) (h : FH) (fa : FAH) (out : Ev → HV × Tb → Option Out) : FS := fun env => (h env).bind fun x => (fa env).bind fun xs => (methK c m gg env.t x xs).bind (out env)
def outSet (i : Nat) (env : Ev) (r : HV × Tb) : Option Out := (setHS i r.1 ⟨env.s, r.2⟩).map .nx
def outDo (env : Ev) (r : HV × Tb) : Option Out := some (.nx ⟨env.s, r.2⟩)
def outRet (_ : Ev) (r : HV × Tb) : Option Out := some (.rth r.1 r.2)
section
variable {X : Cx} {cl : Str → Option Addr} {a b e o value : Expr} {es : List Expr} {h hh : FH} {fa : FAH} {pos pos' : Pos} {gg : List HV → Tb → Option (HV × Tb)} {ps : List Str} {k j : Nat}
theorem meth_rd {Z : Zc} {C : Addr} {c m : Str} {σ : L2.St} {H : Hp} {E : XK} {Q : VK} (hcl : Z.cl c = some C)
    (hq : ∃ env w x xs y T', w.H = H ∧ Wok Z env σ w ∧ h env = some x ∧ fa env = some xs ∧ methK c m gg env.t x xs = some (y, T') ∧ ∀ v w', Gs w w' → Wok Z ⟨env.s, T'⟩ σ w' → HvOk Z w' v y → Q v w'.H) :
    tMeth C m (spH Z gg) [] E (tH Z h) (tAH Z fa) σ H Q := by
  obtain ⟨env, w, x, xs, y, T', rfl, kk, h1, h2, h3, q⟩ := hq
  obtain ⟨⟨c', fs⟩, h4, h5⟩ := Option.bind_eq_some_iff.mp h3
  dsimp only at h5
  split at h5
  · rename_i hc
    obtain ⟨rfl, hm⟩ := hc
    refine ⟨env, w, x, rfl, kk, h1, fun v w1 g1 hv => ?_⟩
    obtain ⟨p, C', dx, vs0, rfl, h6, h7⟩ := insOf_ok g1.wf (kk.mono g1).tb hv h4
    rw [hcl] at h7
    cases h7
    refine ⟨p, dx, _, rfl, h6, lookup_no hm, env, w1, xs, rfl, kk.mono g1, h2, fun vs w2 g2 hvs => ?_⟩
    show spH Z gg (V.ref p :: (vs ++ [])) w2.H Q E
    rw [List.append_nil]
    exact spH_at ((kk.mono g1).mono g2) (xs := x :: xs) ⟨hv.mono g2.n (by rw [g2.m]; exact List.prefix_refl _), hvs⟩ h5 fun u w' g3 k3 hu => q u w' (((g1.trans g2).gs kk.wf).trans g3) k3 hu
  · cases h5
theorem meth0_rd {Z : Zc} {C : Addr} {c m : Str} {σ : L2.St} {H : Hp} {E : XK} {Q : VK} (hcl : Z.cl c = some C)
    (hq : ∃ env w x xs y T', w.H = H ∧ Wok Z env σ w ∧ h env = some x ∧ hNil env = some xs ∧ methK c m gg env.t x xs = some (y, T') ∧ ∀ v w', Gs w w' → Wok Z ⟨env.s, T'⟩ σ w' → HvOk Z w' v y → Q v w'.H) :
    tMeth C m (spH Z gg) [] E (tH Z h) tNil σ H Q := by
  obtain ⟨env, w, x, xs, y, T', rfl, kk, h1, h2, h3, q⟩ := hq
  cases h2
  obtain ⟨⟨c', fs⟩, h4, h5⟩ := Option.bind_eq_some_iff.mp h3
  dsimp only at h5
  split at h5
  · rename_i hc
    obtain ⟨rfl, hm⟩ := hc
    refine ⟨env, w, x, rfl, kk, h1, fun v w1 g1 hv => ?_⟩
    obtain ⟨p, C', dx, vs0, rfl, h6, h7⟩ := insOf_ok g1.wf (kk.mono g1).tb hv h4
    rw [hcl] at h7
    cases h7
    refine ⟨p, dx, _, rfl, h6, lookup_no hm, ?_⟩
    exact spH_at (E := E) (kk.mono g1) (xs := [x]) (vs := [V.ref p]) ⟨hv, trivial⟩ h5 fun u w' g3 k3 hu => q u w' ((g1.gs kk.wf).trans g3) k3 hu
  · cases h5
/-- o.m(..) as an expression, the table changed: its three places -/
theorem js_meth {c m : Str} {apos cpos : Pos} {pl : Sem Bool} (M : MeH X.prog X.w X.K X.mg X.base cl k c m ps gg) (hr : Room j X.A) (ho : PE X o (tH (zx X cl) h)) (ha : PA X (a :: es) (tAH (zx X cl) fa)) (hkj : k ≤ j)
    (hst : starEach (a :: es) X.env = (false, eval a X.env) :: starEach es X.env) (hpl : (backTo cpos (starEach es X.env)).any (·.1) = false)
    (ht : eval (.Call (.Attribute o m apos) (a :: es) [] cpos) X.env = (do
      let ov ← eval o X.env
      standAt apos.atName
      let (f, first) ← holding [ov] (getMethod ov m pl)
      callWith cpos f first (backTo cpos (starEach (a :: es) X.env)) (backToKw cpos (keywordEach [] X.env)))) :
    ∃ C, cl c = some C ∧ PE X (.Call (.Attribute o m apos) (a :: es) [] cpos) (tMeth C m (spH (zx X cl) gg) [] E0 (tH (zx X cl) h) (tAH (zx X cl) fa)) := by
  obtain ⟨C, f, fd, c1, me, F, hcl, hb⟩ := M.ex
  exact ⟨C, hcl, pe_meth ho c1 me F (hr.mono hkj) hb .nil pass0 ha hst hpl ht⟩
theorem js_methSet (i : Nat) {c m x : Str} {apos cpos p' : Pos} {pl : Sem Bool} (hX : XS X) (M : MeH X.prog X.w X.K X.mg X.base cl k c m ps gg) (hr : Room j X.A) (ho : PE X o (tH (zx X cl) h)) (ha : PA X (a :: es) (tAH (zx X cl) fa)) (hkj : k ≤ j := by decide)
    (hst : starEach (a :: es) X.env = (false, eval a X.env) :: starEach es X.env := by rfl) (hpl : (backTo cpos (starEach es X.env)).any (·.1) = false := by rfl)
    (ht : eval (.Call (.Attribute o m apos) (a :: es) [] cpos) X.env = (do
      let ov ← eval o X.env
      standAt apos.atName
      let (f, first) ← holding [ov] (getMethod ov m pl)
      callWith cpos f first (backTo cpos (starEach (a :: es) X.env)) (backToKw cpos (keywordEach [] X.env))) := by rfl)
    (hi : X.N[i]? = some x := by rfl) (hx : Loc X.env.scope x := by first | exact Or.inl rfl | exact Or.inr rfl) (hs : swapsWith (.Call (.Attribute o m apos) (a :: es) [] cpos) (some (.Name x p')) pos.line X.env = pure false := by rfl)
    (hf : X.fn x = true ∨ X.env.scope.names.lookup x = some .local := by first | exact .inl rfl | exact .inr rfl) : PS X (.Assign [.Name x p'] (.Call (.Attribute o m apos) (a :: es) [] cpos) pos) (tS (zx X cl) (sMeth c m gg h fa (outSet i))) := by
  obtain ⟨C, hcl, pe⟩ := js_meth M hr ho ha hkj hst hpl ht
  refine ps_w (ps_set hX.nd hi hx pe hs hf) fun D σ H ⟨env, w, out, e, kk, hq, q⟩ => ?_
  subst e
  obtain ⟨x, h1, hq1⟩ := Option.bind_eq_some_iff.mp hq
  obtain ⟨xs, h2, hq2⟩ := Option.bind_eq_some_iff.mp hq1
  obtain ⟨⟨y, T'⟩, h3, hq3⟩ := Option.bind_eq_some_iff.mp hq2
  obtain ⟨e', h4, rfl⟩ := Option.map_eq_some_iff.mp hq3
  exact meth_rd hcl ⟨env, w, x, xs, y, T', rfl, kk, h1, h2, h3, fun v w' g2 k2 hv => q _ w' g2 (setHS_ok k2 h4 hv)⟩
/-- o.m(): no argument -/
theorem js_meth0 {c m : Str} {apos cpos : Pos} {pl : Sem Bool} (M : MeH X.prog X.w X.K X.mg X.base cl k c m ps gg) (hr : Room j X.A) (ho : PE X o (tH (zx X cl) h)) (hkj : k ≤ j)
    (ht : eval (.Call (.Attribute o m apos) [] [] cpos) X.env = (do
      let ov ← eval o X.env
      standAt apos.atName
      let (f, first) ← holding [ov] (getMethod ov m pl)
      callWith cpos f first (backTo cpos (starEach [] X.env)) (backToKw cpos (keywordEach [] X.env)))) :
    ∃ C, cl c = some C ∧ PE X (.Call (.Attribute o m apos) [] [] cpos) (tMeth C m (spH (zx X cl) gg) [] E0 (tH (zx X cl) h) tNil) := by
  obtain ⟨C, f, fd, c1, me, F, hcl, hb⟩ := M.ex
  exact ⟨C, hcl, pe_meth0 ho c1 me F (hr.mono hkj) hb .nil pass0 ht⟩
theorem js_meth0Set (i : Nat) {c m x : Str} {apos cpos p' : Pos} {pl : Sem Bool} (hX : XS X) (M : MeH X.prog X.w X.K X.mg X.base cl k c m ps gg) (hr : Room j X.A) (ho : PE X o (tH (zx X cl) h)) (hkj : k ≤ j := by decide)
    (ht : eval (.Call (.Attribute o m apos) [] [] cpos) X.env = (do
      let ov ← eval o X.env
      standAt apos.atName
      let (f, first) ← holding [ov] (getMethod ov m pl)
      callWith cpos f first (backTo cpos (starEach [] X.env)) (backToKw cpos (keywordEach [] X.env))) := by rfl)
    (hi : X.N[i]? = some x := by rfl) (hx : Loc X.env.scope x := by first | exact Or.inl rfl | exact Or.inr rfl) (hs : swapsWith (.Call (.Attribute o m apos) [] [] cpos) (some (.Name x p')) pos.line X.env = pure false := by rfl)
    (hf : X.fn x = true ∨ X.env.scope.names.lookup x = some .local := by first | exact .inl rfl | exact .inr rfl) : PS X (.Assign [.Name x p'] (.Call (.Attribute o m apos) [] [] cpos) pos) (tS (zx X cl) (sMeth c m gg h hNil (outSet i))) := by
  obtain ⟨C, hcl, pe⟩ := js_meth0 M hr ho hkj ht
  refine ps_w (ps_set hX.nd hi hx pe hs hf) fun D σ H ⟨env, w, out, e, kk, hq, q⟩ => ?_
  subst e
  obtain ⟨x, h1, hq1⟩ := Option.bind_eq_some_iff.mp hq
  obtain ⟨xs, h2, hq2⟩ := Option.bind_eq_some_iff.mp hq1
  obtain ⟨⟨y, T'⟩, h3, hq3⟩ := Option.bind_eq_some_iff.mp hq2
  obtain ⟨e', h4, rfl⟩ := Option.map_eq_some_iff.mp hq3
  exact meth0_rd hcl ⟨env, w, x, xs, y, T', rfl, kk, h1, h2, h3, fun v w' g2 k2 hv => q _ w' g2 (setHS_ok k2 h4 hv)⟩
theorem js_methDo {c m : Str} {apos cpos : Pos} {pl : Sem Bool} (M : MeH X.prog X.w X.K X.mg X.base cl k c m ps gg) (hr : Room j X.A) (ho : PE X o (tH (zx X cl) h)) (ha : PA X (a :: es) (tAH (zx X cl) fa)) (hkj : k ≤ j := by decide)
    (hst : starEach (a :: es) X.env = (false, eval a X.env) :: starEach es X.env := by rfl) (hpl : (backTo cpos (starEach es X.env)).any (·.1) = false := by rfl)
    (ht : eval (.Call (.Attribute o m apos) (a :: es) [] cpos) X.env = (do
      let ov ← eval o X.env
      standAt apos.atName
      let (f, first) ← holding [ov] (getMethod ov m pl)
      callWith cpos f first (backTo cpos (starEach (a :: es) X.env)) (backToKw cpos (keywordEach [] X.env))) := by rfl)
    (hs : swapsWith (.Call (.Attribute o m apos) (a :: es) [] cpos) none pos.line X.env = pure false := by rfl) : PS X (.Expr (.Call (.Attribute o m apos) (a :: es) [] cpos) pos) (tS (zx X cl) (sMeth c m gg h fa outDo)) := by
  obtain ⟨C, hcl, pe⟩ := js_meth M hr ho ha hkj hst hpl ht
  refine ps_w (ps_expr pe hs) fun D σ H ⟨env, w, out, e, kk, hq, q⟩ => ?_
  subst e
  obtain ⟨x, h1, hq1⟩ := Option.bind_eq_some_iff.mp hq
  obtain ⟨xs, h2, hq2⟩ := Option.bind_eq_some_iff.mp hq1
  obtain ⟨⟨y, T'⟩, h3, hq3⟩ := Option.bind_eq_some_iff.mp hq2
  cases hq3
  exact meth_rd hcl ⟨env, w, x, xs, y, T', rfl, kk, h1, h2, h3, fun v w' g2 k2 _ => q σ w' g2 k2⟩
theorem js_meth0Do {c m : Str} {apos cpos : Pos} {pl : Sem Bool} (M : MeH X.prog X.w X.K X.mg X.base cl k c m ps gg) (hr : Room j X.A) (ho : PE X o (tH (zx X cl) h)) (hkj : k ≤ j := by decide)
    (ht : eval (.Call (.Attribute o m apos) [] [] cpos) X.env = (do
      let ov ← eval o X.env
      standAt apos.atName
      let (f, first) ← holding [ov] (getMethod ov m pl)
      callWith cpos f first (backTo cpos (starEach [] X.env)) (backToKw cpos (keywordEach [] X.env))) := by rfl)
    (hs : swapsWith (.Call (.Attribute o m apos) [] [] cpos) none pos.line X.env = pure false := by rfl) : PS X (.Expr (.Call (.Attribute o m apos) [] [] cpos) pos) (tS (zx X cl) (sMeth c m gg h hNil outDo)) := by
  obtain ⟨C, hcl, pe⟩ := js_meth0 M hr ho hkj ht
  refine ps_w (ps_expr pe hs) fun D σ H ⟨env, w, out, e, kk, hq, q⟩ => ?_
  subst e
  obtain ⟨x, h1, hq1⟩ := Option.bind_eq_some_iff.mp hq
  obtain ⟨xs, h2, hq2⟩ := Option.bind_eq_some_iff.mp hq1
  obtain ⟨⟨y, T'⟩, h3, hq3⟩ := Option.bind_eq_some_iff.mp hq2
  cases hq3
  exact meth0_rd hcl ⟨env, w, x, xs, y, T', rfl, kk, h1, h2, h3, fun v w' g2 k2 _ => q σ w' g2 k2⟩
theorem js_methRet {c m : Str} {apos cpos : Pos} {pl : Sem Bool} (M : MeH X.prog X.w X.K X.mg X.base cl k c m ps gg) (hr : Room j X.A) (ho : PE X o (tH (zx X cl) h)) (ha : PA X (a :: es) (tAH (zx X cl) fa)) (hkj : k ≤ j := by decide)
    (hst : starEach (a :: es) X.env = (false, eval a X.env) :: starEach es X.env := by rfl) (hpl : (backTo cpos (starEach es X.env)).any (·.1) = false := by rfl)
    (ht : eval (.Call (.Attribute o m apos) (a :: es) [] cpos) X.env = (do
      let ov ← eval o X.env
      standAt apos.atName
      let (f, first) ← holding [ov] (getMethod ov m pl)
      callWith cpos f first (backTo cpos (starEach (a :: es) X.env)) (backToKw cpos (keywordEach [] X.env))) := by rfl) : PS X (.Return (some (.Call (.Attribute o m apos) (a :: es) [] cpos)) pos) (tS (zx X cl) (sMeth c m gg h fa outRet)) := by
  obtain ⟨C, hcl, pe⟩ := js_meth M hr ho ha hkj hst hpl ht
  refine ps_w (ps_ret pe) fun D σ H ⟨env, w, out, e, kk, hq, q⟩ => ?_
  subst e
  obtain ⟨x, h1, hq1⟩ := Option.bind_eq_some_iff.mp hq
  obtain ⟨xs, h2, hq2⟩ := Option.bind_eq_some_iff.mp hq1
  obtain ⟨⟨y, T'⟩, h3, hq3⟩ := Option.bind_eq_some_iff.mp hq2
  cases hq3
  exact meth_rd hcl ⟨env, w, x, xs, y, T', rfl, kk, h1, h2, h3, fun v w' g2 k2 hv => q v w' g2 hv k2.tb⟩
theorem js_meth0Ret {c m : Str} {apos cpos : Pos} {pl : Sem Bool} (M : MeH X.prog X.w X.K X.mg X.base cl k c m ps gg) (hr : Room j X.A) (ho : PE X o (tH (zx X cl) h)) (hkj : k ≤ j := by decide)
    (ht : eval (.Call (.Attribute o m apos) [] [] cpos) X.env = (do
      let ov ← eval o X.env
      standAt apos.atName
      let (f, first) ← holding [ov] (getMethod ov m pl)
      callWith cpos f first (backTo cpos (starEach [] X.env)) (backToKw cpos (keywordEach [] X.env))) := by rfl) : PS X (.Return (some (.Call (.Attribute o m apos) [] [] cpos)) pos) (tS (zx X cl) (sMeth c m gg h hNil outRet)) := by
  obtain ⟨C, hcl, pe⟩ := js_meth0 M hr ho hkj ht
  refine ps_w (ps_ret pe) fun D σ H ⟨env, w, out, e, kk, hq, q⟩ => ?_
  subst e
  obtain ⟨x, h1, hq1⟩ := Option.bind_eq_some_iff.mp hq
  obtain ⟨xs, h2, hq2⟩ := Option.bind_eq_some_iff.mp hq1
  obtain ⟨⟨y, T'⟩, h3, hq3⟩ := Option.bind_eq_some_iff.mp hq2
  cases hq3
  exact meth0_rd hcl ⟨env, w, x, xs, y, T', rfl, kk, h1, h2, h3, fun v w' g2 k2 hv => q v w' g2 hv k2.tb⟩
end
end Vf
namespace Vf
open PySem L2
/-! o[i] = e, o a list of the table; its length, its truth -/
def putK (env : Ev) (k : Nat) (xs : List HV) (x : HV) (r : TD) : Option Out := match r.2 with
  | .int i => (ixN xs.length i).map fun j => .nx ⟨env.s, env.t.set k (some (.lst (xs.set j x)))⟩
  | _ => none
/-- o[g] = e -/
@[simp] def sPutH (h : FH) (g : FE) (v : FH) : FS := fun env => (v env).bind fun x => (h env).bind fun a => (obLst env.t a).bind fun q => (g env).bind (putK env q.1 q.2 x)
section
variable {X : Cx} {cl : Str → Option Addr} {a b e o i : Expr} {es : List Expr} {f g : FE} {h hh : FH} {pos pos' : Pos}
theorem js_putH (hv : PE X e (tH (zx X cl) hh)) (ho : PE X o (tH (zx X cl) h)) (hi : PE X i (tE (zx X cl) g))
    (ha : ∀ v, assign (.Subscript o i pos') X.env v = (do
      let ov ← holding [v] (eval o X.env)
      let iv ← holding [v, ov] (eval i X.env)
      standAt pos'
      holding [v, ov, iv] (setItem ov iv v)
      release [v, ov, iv] []) := by intro _; rfl)
    (hs : swapsWithSole [.Subscript o i pos'] e pos.line X.env = pure false := by rfl) (hw : swappedStores [.Subscript o i pos'] e X.env = pure none := by rfl)
    (h1 : (assignEach [.Subscript o i pos'] X.env).map (·.2) = [assign (.Subscript o i pos') X.env] := by rfl) : PS X (.Assign [.Subscript o i pos'] e pos) (tS (zx X cl) (sPutH h g hh)) := by
  refine ps_w (ps_asg hv (pg_sub ho hi set_list ha) hs hw h1) fun D σ H ⟨env, w, out, e, k, hr, q⟩ => ?_
  subst e
  obtain ⟨x, h1, hr1⟩ := Option.bind_eq_some_iff.mp hr
  obtain ⟨y, h2, hr2⟩ := Option.bind_eq_some_iff.mp hr1
  obtain ⟨⟨j, xs⟩, h3, hr3⟩ := Option.bind_eq_some_iff.mp hr2
  obtain ⟨⟨t, d⟩, h4, hr4⟩ := Option.bind_eq_some_iff.mp hr3
  obtain ⟨rfl, ej⟩ := obLst_some h3
  obtain ⟨n, rfl⟩ : ∃ n, d = .int n := by
    cases d with
    | int n => exact ⟨n, rfl⟩
    | _ => cases hr4
  have hr5 : (ixN xs.length n).map (fun m => Out.nx ⟨env.s, env.t.set j (some (.lst (xs.set m x)))⟩) = some out := hr4
  obtain ⟨m, h5, h6⟩ := Option.map_eq_some_iff.mp hr5
  subst h6
  refine ⟨env, w, x, rfl, k, h1, fun v w1 g1 hx => ⟨env, w1, _, rfl, k.mono g1, h2, fun u w2 g2 hy => ⟨env, w2, _, rfl, (k.mono g1).mono g2, h4, fun u2 w3 g3 r3 => ?_⟩⟩⟩
  have k3 := ((k.mono g1).mono g2).mono g3
  have p12 : w1.m <+: w2.m := by rw [g2.m]; exact List.prefix_refl _
  have p23 : w2.m <+: w3.m := by rw [g3.m]; exact List.prefix_refl _
  obtain ⟨a, vs, rfl, h7, h8, h9, h10⟩ := ob_lst k3.tb (hy.mono g3.n p23) ej
  have hx3 := (hx.mono g2.n p12).mono g3.n p23
  obtain ⟨k4, g4⟩ := k3.tset (M := .lst (xs.set m x)) (o := .lst (vs.set m v)) ej h7 h8 ⟨_, upd_same, HvsOk.mono (w := w3) (w' := ⟨w3.N, w3.B, upd w3.H _ (.lst (vs.set m v)), w3.m⟩) (.refl _) (List.prefix_refl _) (h10.set m hx3)⟩
  exact ⟨a, vs, n, m, rfl, rv_int g3.wf r3, h9, by rw [h10.length]; exact h5, q σ _ ((((g1.trans g2).trans g3).gs k.wf).trans g4) k4⟩
end
end Vf
namespace Vf
open PySem L2
/-! an object of the table becomes a tree: nobody changes it any more -/
def pures : List HV → Option (List D)
  | [] => some []
  | .pu d :: r => (pures r).map (d :: ·)
  | .ob _ :: _ => none
def mobD : Mob → Option D
  | .lst xs => (pures xs).map .lst
  | .ins c fs xs => (pures xs).map (.ins c fs)
  | _ => none
theorem pures_rp {Z : Zc} {w : Wd} : ∀ {vs : List V} {xs : List HV} {ds : List D}, HvsOk Z w vs xs → pures xs = some ds → RpL Z w.N vs ds
  | [], [], _, _, e => by cases e; exact .nil
  | v :: vs, .pu d :: xs, _, ⟨h, r⟩, e => by
    obtain ⟨ds, e1, rfl⟩ := Option.map_eq_some_iff.mp e
    exact .cons h (pures_rp r e1)
  | _ :: _, .ob _ :: _, _, _, e => by cases e
  | [], _ :: _, _, h, _ => h.elim
  | _ :: _, [], _, h, _ => h.elim
def frzHK (i : Nat) (env : Ev) : Sl → Option Out
  | .han n => match env.t[n]? with
    | some (some M) => (mobD M).map fun d => .nx ⟨env.s.set i (.val .N d), env.t.set n none⟩
    | _ => none
  | _ => some (.nx env)
@[simp] def sFrzH (i : Nat) : FS := fun env => (env.s[i]?).bind (frzHK i env)
theorem js_frzH (i : Nat) {X : Cx} {cl : Str → Option Addr} {rest : List Stmt} {B : FS} (h2 : PSs X rest (tS (zx X cl) B)) : PSs X rest (tS (zx X cl) (sSeq (sFrzH i) B)) := by
  refine pss_w h2 fun D σ H ⟨env, w, out, e, k, hr, q⟩ => ?_
  subst e
  obtain ⟨o, h3, h4⟩ := Option.bind_eq_some_iff.mp hr
  obtain ⟨s, hs, h5⟩ := Option.bind_eq_some_iff.mp h3
  cases s with
  | un => cases h5; exact ⟨env, w, out, rfl, k, h4, q⟩
  | val t d => cases h5; exact ⟨env, w, out, rfl, k, h4, q⟩
  | own ds => cases h5; exact ⟨env, w, out, rfl, k, h4, q⟩
  | han n =>
    unfold frzHK at h5
    dsimp only at h5
    split at h5
    · rename_i M ej
      obtain ⟨d, h6, rfl⟩ := Option.map_eq_some_iff.mp h5
      obtain ⟨o, ho, a, rfl, hm⟩ := k.sl i _ hs
      obtain ⟨a', hm', hb, hM⟩ := k.tb.at_ n M ej
      rw [hm] at hm'
      cases hm'
      have hi : i < env.s.length := (List.getElem?_eq_some_iff.mp hs).1
      have hN : w.N a = none := k.wf.nb.free hb
      -- what stands there, read in the widened heap
      obtain ⟨ob, hH, hd⟩ : ∃ ob, w.H a = some ob ∧ Rp (zx X cl) (upd w.N a ob) (.ref a) d := by
        cases M with
        | lst xs =>
          obtain ⟨ds, e1, rfl⟩ := Option.map_eq_some_iff.mp h6
          obtain ⟨vs, e2, e3⟩ := hM
          exact ⟨_, e2, .lst upd_same (RpL.mono (same_up hN) (pures_rp e3 e1))⟩
        | ins c fs xs =>
          obtain ⟨ds, e1, rfl⟩ := Option.map_eq_some_iff.mp h6
          obtain ⟨C, dx, vs, e2, e3, e4, e5⟩ := hM
          exact ⟨_, e2, .ins upd_same e3 e4 (RpL.mono (same_up hN) (pures_rp e5 e1))⟩
        | tup xs => cases h6
        | dic ks xs => cases h6
      have sh : Same (upd w.B a ob) w.H := fun b x e => by
        by_cases z : b = a
        · subst z
          rw [upd_same] at e
          rw [hH]
          exact e
        · rw [upd_ne z] at e
          exact k.wf.bh _ _ e
      have wf : Wf ⟨upd w.N a ob, upd w.B a ob, w.H, w.m⟩ := ⟨same_up2 k.wf.nb, sh⟩
      have gs : Gs w ⟨upd w.N a ob, upd w.B a ob, w.H, w.m⟩ := ⟨wf, same_up hN, same_up hb, fun x z => (upd_some z).imp id fun e => by rw [e]; exact hb, List.prefix_refl _, fun _ z => .inl z⟩
      have ha := List.mem_of_getElem? hm
      have k1 : Wok (zx X cl) ⟨env.s, env.t.set n none⟩ σ ⟨upd w.N a ob, upd w.B a ob, w.H, w.m⟩ := by
        refine ⟨wf, k.len, fun j s e => ?_, k.dj, ⟨by rw [List.length_set]; exact k.tb.len, k.tb.nd, k.tb.hh, fun j M' e => ?_⟩⟩
        · obtain ⟨o, e1, e2⟩ := k.sl j s e
          refine ⟨o, e1, ?_⟩
          cases s with
          | un => exact trivial
          | val t d =>
            obtain ⟨v, e3, e4⟩ := e2
            exact ⟨v, e3, e4.imp (fun ⟨x, y⟩ => ⟨x, Rp.mono (same_up hN) y⟩) fun ⟨x, y⟩ => ⟨x, Rp.mono (same_up hb) y⟩⟩
          | han m => exact e2
          | own fs =>
            obtain ⟨p, vs, e3, e4, e5, e6, e7⟩ := e2
            have : p ≠ a := fun z => e6 (by rw [z]; exact ha)
            exact ⟨p, vs, e3, e4, by show upd w.B a ob p = none; rw [upd_ne this]; exact e5, e6, RpL.mono (same_up hN) e7⟩
        · have hn : n < env.t.length := (List.getElem?_eq_some_iff.mp ej).1
          by_cases hj : n = j
          · subst hj
            have e : (env.t.set n none)[n]? = _ := e
            rw [List.getElem?_set_self hn] at e
            cases e
          · have e : (env.t.set n none)[j]? = _ := e
            rw [List.getElem?_set_ne hj] at e
            obtain ⟨b, e1, e2, e3⟩ := k.tb.at_ j M' e
            have hne : b ≠ a := fun z => by
              subst z
              exact hj ((List.getElem?_inj (List.getElem?_eq_some_iff.mp hm).1 k.tb.nd).mp (hm.trans e1.symm))
            exact ⟨b, e1, by show upd w.B a ob b = none; rw [upd_ne hne]; exact e2, MobOk.mono (w := w) (w' := ⟨upd w.N a ob, upd w.B a ob, w.H, w.m⟩) (same_up hN) (List.prefix_refl _) (fun _ z => z) e3⟩
      have k2 := k1.setS (i := i) (x := .val .N d) (v := .ref a) hi (fun _ z => nomatch z) ⟨_, rfl, .inl ⟨rfl, hd⟩⟩
      have es : σ.set i (some (.ref a)) = σ := by
        apply List.ext_getElem?
        intro m
        by_cases hn : i = m
        · subst hn
          rw [List.getElem?_set_self (by rw [k.len]; exact hi), ho]
        · rw [List.getElem?_set_ne hn]
      rw [es] at k2
      exact ⟨_, ⟨upd w.N a ob, upd w.B a ob, w.H, w.m⟩, out, rfl, k2, h4, q.mono gs⟩
    · cases h5
end Vf
namespace Vf
open PySem L2
/-! len and truth of a list of the table -/
def lenHK (T : Tb) (xs : List HV) : Option TD := match xs with
  | [a] => (obLst T a).map fun q => (.N, .int q.2.length)
  | _ => none
@[simp] def sLenOf (h : FH) : FE := fun env => (h env).bind fun a => lenHK env.t [a]
@[simp] def sTruH (h : FH) : FT := fun env => (h env).bind fun a => (obLst env.t a).map fun q => !q.2.isEmpty
section
variable {X : Cx} {cl : Str → Option Addr} {a b e o i : Expr} {es : List Expr} {f g : FE} {h hh : FH} {pos pos' : Pos}
theorem je_lenH {p : Pos} (hm : X.mg "len" = none) (ha : PE X a (tH (zx X cl) h)) (hg : Gl X "len" := by rfl) (he : starEach [a] X.env = (false, eval a X.env) :: starEach [] X.env := by rfl) (hpl : (backTo pos (starEach [] X.env)).any (·.1) = false := by rfl) :
    PE X (.Call (.Name "len" p) [a] [] pos) (tE (zx X cl) (sLenOf h)) := by
  refine pe_w (pe_callB call_len hg hm PySem.boot_len (jah_cons ha jah_nil he) (by decide) (by decide) he hpl) fun σ H Q ⟨env, w, r, e, k, hr, q⟩ => ?_
  subst e
  obtain ⟨x, h1, hr1⟩ := Option.bind_eq_some_iff.mp hr
  obtain ⟨⟨j, xs⟩, h2, h3⟩ := Option.map_eq_some_iff.mp (show (obLst env.t x).map (fun q => ((.N, .int q.2.length) : TD)) = some r from hr1)
  obtain ⟨rfl, ej⟩ := obLst_some h2
  subst h3
  refine ⟨env, w, [.ob j], rfl, k, by simp [h1], fun vs w1 g1 hv => ?_⟩
  match vs, hv with
  | [v], ⟨hv, _⟩ =>
    obtain ⟨p, us, rfl, h4, h5, h6, h7⟩ := ob_lst (k.tb.mono g1) hv ej
    refine ⟨_, _, rfl, .inl ⟨us, SqL.of h6, rfl⟩, ?_⟩
    rw [h7.length]
    exact q _ w1 g1 (nN (.int _) rfl)
theorem jt_vH (ha : PE X a (tH (zx X cl) h)) (he : ∀ whole, isTrue a X.env whole = (do let v ← whole; standAt a.pos; holding [v] (truthy v)) := by intro _; rfl) : PT X a (tT (zx X cl) (sTruH h)) := by
  refine pt_w (pt_truth ha he) fun σ H Q ⟨env, w, r, e, k, hr, q⟩ => ?_
  subst e
  obtain ⟨x, h1, hr1⟩ := Option.bind_eq_some_iff.mp hr
  obtain ⟨⟨j, xs⟩, h2, h3⟩ := Option.map_eq_some_iff.mp hr1
  obtain ⟨rfl, ej⟩ := obLst_some h2
  subst h3
  refine ⟨env, w, _, rfl, k, h1, fun v w1 g1 hv => ⟨_, ?_, q w1 g1⟩⟩
  obtain ⟨p, us, rfl, h4, h5, h6, h7⟩ := ob_lst (k.tb.mono g1) hv ej
  refine .inl ⟨us, SqL.of h6, ?_⟩
  have hl := h7.length
  cases us <;> cases xs <;> first | rfl | (simp at hl)
end
end Vf
namespace Vf
open PySem L2
/-! x[i] = e, x an own list -/
section
variable {X : Cx} {cl : Str → Option Addr} {a b e o i : Expr} {es : List Expr} {f g : FE} {h hh : FH} {pos pos' : Pos}
theorem js_put (n : Nat) {x : Str} {px : Pos} (hv : PE X e (tE (zx X cl) f)) (hi : PE X i (tE (zx X cl) g)) (hN : X.N[n]? = some x := by rfl) (hvis : Vis X.env.scope x := by first | exact Or.inl rfl | exact Or.inr (Or.inl rfl) | exact Or.inr (Or.inr rfl))
    (hd : (x == ("__debug__" : Str)) = false := by decide) (hcd : (x == ("__classdict__" : Str)) = false := by decide)
    (ha : ∀ v, assign (.Subscript (.Name x px) i pos') X.env v = (do
      let ov ← holding [v] (eval (.Name x px) X.env)
      let iv ← holding [v, ov] (eval i X.env)
      standAt pos'
      holding [v, ov, iv] (setItem ov iv v)
      release [v, ov, iv] []) := by intro _; rfl)
    (hs : swapsWithSole [.Subscript (.Name x px) i pos'] e pos.line X.env = pure false := by rfl) (hw : swappedStores [.Subscript (.Name x px) i pos'] e X.env = pure none := by rfl)
    (h1 : (assignEach [.Subscript (.Name x px) i pos'] X.env).map (·.2) = [assign (.Subscript (.Name x px) i pos') X.env] := by rfl) : PS X (.Assign [.Subscript (.Name x px) i pos'] e pos) (tS (zx X cl) (sPut n g f)) := by
  refine ps_w (ps_asg hv (pg_sub (pe_var hN hvis hd hcd) hi set_list ha) hs hw h1) fun D σ H ⟨env, w, out, e, k, hr, q⟩ => ?_
  subst e
  obtain ⟨⟨t, d⟩, h1, hr1⟩ := Option.bind_eq_some_iff.mp hr
  dsimp only at hr1
  split at hr1
  · rename_i ds henv
    obtain ⟨⟨t2, d2⟩, h4, hr4⟩ := Option.bind_eq_some_iff.mp hr1
    dsimp only at hr4
    split at hr4
    · rename_i j
      obtain ⟨m, h5, rfl⟩ := Option.map_eq_some_iff.mp hr4
      refine ⟨env, w, _, rfl, k, h1, fun v w1 g1 hx => ?_⟩
      have k1 := k.mono g1
      obtain ⟨o, ho, p, vs, rfl, h6, h7, hpm, h8⟩ := k1.sl n _ henv
      refine ⟨.ref p, ho, env, w1, _, rfl, k1, h4, fun u2 w3 g3 r3 => ?_⟩
      obtain ⟨k2, g2⟩ := (k1.mono g3).mut (us := vs.set m v) (es := ds.set m d) henv ho (g3.h _ _ h6) (own_mono g3 h6 h7) (by rw [g3.m]; exact hpm) (RpL.mono g3.n (h8.set m hx))
      exact ⟨p, vs, j, m, rfl, rv_int g3.wf r3, g3.h _ _ h6, by rw [h8.length]; exact h5, q σ _ (((g1.trans g3).gs k.wf).trans g2) k2⟩
    · cases hr4
  · cases hr1
end
end Vf
namespace Vf
open PySem L2
/-! what holds of a worth that is there -/
def Ok {α : Type} (o : Option α) (Q : α → Prop) : Prop := ∃ x, o = some x ∧ Q x
section
variable {α β : Type} {Q R : α → Prop} {P : β → Prop} {o : Option α} {a : α}
@[simp] theorem Ok_some : Ok (some a) Q ↔ Q a := ⟨fun ⟨x, e, h⟩ => by cases e; exact h, fun h => ⟨a, rfl, h⟩⟩
@[simp] theorem Ok_none : Ok none Q ↔ False := ⟨fun ⟨x, e, h⟩ => (nomatch e), fun h => h.elim⟩
@[simp] theorem Ok_bind {f : α → Option β} : Ok (o.bind f) P ↔ Ok o fun x => Ok (f x) P := by
  cases o <;> simp
@[simp] theorem Ok_map {f : α → β} : Ok (o.map f) P ↔ Ok o fun x => P (f x) := by
  cases o <;> simp
@[simp] theorem Ok_ite {c : Prop} [Decidable c] {p q : Option α} : Ok (if c then p else q) Q ↔ (c → Ok p Q) ∧ (¬ c → Ok q Q) := by
  split <;> simp_all
@[simp] theorem Ok_cif {c : Prop} {p : Option α} : Ok (cif c p none) Q ↔ c ∧ Ok p Q := by
  by_cases h : c
  · rw [cif_pos h]; simp [h]
  · rw [cif_neg h]; simp [h]
theorem Ok.mono (h : Ok o Q) (hq : ∀ x, Q x → R x) : Ok o R := by
  obtain ⟨x, e, q⟩ := h
  exact ⟨x, e, hq x q⟩
theorem Ok.of (e : o = some a) (h : Q a) : Ok o Q := ⟨a, e, h⟩
theorem Ok.eq (h : Ok o fun x => x = a) : o = some a := by
  obtain ⟨x, e, rfl⟩ := h
  exact e
theorem Ok.of_eq (h : o = some a) : Ok o fun x => x = a := ⟨a, h, rfl⟩
end
section
variable {t u : Tg} {i j : Int} {x y z : Str} {b k : Bool} {xs ys ds es : List D} {d : D} {env : Ev} {n : Nat} {f g : FE} {A B : FS} {r : TD} {rs : List TD} {Q : TD → Prop} {Ql : Tg × List D → Prop} {Qo : Out → Prop} {Qi : List TD → Prop}
@[simp] theorem Ok_oMul_int : Ok (oMul (t, .int i) (u, .int j)) Q ↔ bitsOk i j = true ∧ Q (.N, .int (i * j)) := by
  show Ok (cif _ _ none) Q ↔ _
  simp
@[simp] theorem Ok_oMul_lst : Ok (oMul (t, .lst xs) (u, .int i)) Q ↔ (i.natAbs ≤ lim ∧ xs.length * i.toNat ≤ lim) ∧ Q (el t, .lst (List.replicate i.toNat xs).flatten) := by
  show Ok (cif _ _ none) Q ↔ _
  simp
@[simp] theorem Ok_oFd : Ok (oFd (t, .int i) (u, .int j)) Q ↔ (0 < j ∧ j < 18446744073709551616) ∧ Q (.N, .int (i / j)) := by
  show Ok (cif _ _ none) Q ↔ _
  simp
@[simp] theorem Ok_oMod : Ok (oMod (t, .int i) (u, .int j)) Q ↔ 0 < j ∧ Q (.N, .int (i % j)) := by
  show Ok (cif _ _ none) Q ↔ _
  simp
@[simp] theorem Ok_oPow : Ok (oPow (t, .int i) (u, .int j)) Q ↔ (0 ≤ j ∧ j ≤ 1000000 ∧ i.natAbs < 18446744073709551616) ∧ Q (.N, .int (i ^ j.toNat)) := by
  show Ok (cif _ _ none) Q ↔ _
  simp
theorem Ok_of_if {α : Type} {c : Prop} [Decidable c] {p : Option α} {P : α → Prop} : Ok (if c then p else none) P ↔ c ∧ Ok p P := by
  split <;> simp_all
@[simp] theorem Ok_oAdd_str : Ok (oAdd (t, .str x) (u, .str y)) Q ↔ x.length + y.length ≤ lim ∧ Q (.N, .str (x ++ y)) := by
  show Ok (if _ then _ else none) Q ↔ _
  rw [Ok_of_if, Ok_some]
@[simp] theorem Ok_oAdd_lst : Ok (oAdd (t, .lst xs) (u, .lst ys)) Q ↔ xs.length + ys.length ≤ lim ∧ Q (mt2 (el t) (el u), .lst (xs ++ ys)) := by
  show Ok (if _ then _ else none) Q ↔ _
  rw [Ok_of_if, Ok_some]
@[simp] theorem Ok_oAdd_tup : Ok (oAdd (t, .tup xs) (u, .tup ys)) Q ↔ xs.length + ys.length ≤ lim ∧ Q (mt2 (el t) (el u), .tup (xs ++ ys)) := by
  show Ok (if _ then _ else none) Q ↔ _
  rw [Ok_of_if, Ok_some]
@[simp] theorem Ok_catL : Ok (catL (t, .lst xs) (u, .lst ys)) Ql ↔ xs.length + ys.length ≤ lim ∧ Ql (mt2 (el t) (el u), xs ++ ys) := by
  show Ok (if _ then _ else none) Ql ↔ _
  rw [Ok_of_if, Ok_some]
@[simp] theorem Ok_oIx_lst : Ok (oIx (t, .lst xs) (u, .int i)) Q ↔ Ok (atI xs i) fun d => Q (nm (el t, d)) := by
  show Ok ((atI xs i).map _) Q ↔ _
  simp
@[simp] theorem Ok_oIx_scr : Ok (oIx (t, .scr xs) (u, .int i)) Q ↔ Ok (atI xs i) fun d => Q (nm (el t, d)) := by
  show Ok ((atI xs i).map _) Q ↔ _
  simp
@[simp] theorem Ok_oIx_tup : Ok (oIx (t, .tup xs) (u, .int i)) Q ↔ Ok (atI xs i) fun d => Q (nm (el t, d)) := by
  show Ok ((atI xs i).map _) Q ↔ _
  simp
@[simp] theorem Ok_r1K : Ok (r1K (t, .int j)) Qi ↔ (j < 4611686018427387904 ∧ -4611686018427387904 ≤ j) ∧ Qi (iRng j.toNat 0) := by
  show Ok (cif _ _ none) Qi ↔ _
  simp
@[simp] theorem Ok_r2K : Ok (r2K (t, .int i) (u, .int j)) Qi ↔ (i < 4611686018427387904 ∧ -4611686018427387904 ≤ i ∧ j < 4611686018427387904 ∧ -4611686018427387904 ≤ j) ∧ Qi (iRng (j - i).toNat i) := by
  show Ok (cif _ _ none) Qi ↔ _
  simp
@[simp] theorem Ok_lenS : Ok (lenB [(t, .str x)]) Q ↔ x.length ≤ lim ∧ Q (.N, .int x.length) := by
  show Ok (if _ then _ else none) Q ↔ _
  rw [Ok_of_if, Ok_some]
@[simp] theorem Ok_appR : Ok (appR n env ds (.N, d)) Qo ↔ ds.length ≤ lim ∧ Qo (.nx (env.put n (.own (ds ++ [d])))) := by
  show Ok (if _ then _ else none) Qo ↔ _
  rw [Ok_of_if, Ok_some]
@[simp] theorem Ok_extR : Ok (extR n env ds (.N, .lst es)) Qo ↔ ds.length + es.length ≤ lim ∧ Qo (.nx (env.put n (.own (ds ++ es)))) := by
  show Ok (if _ then _ else none) Qo ↔ _
  rw [Ok_of_if, Ok_some]
@[simp] theorem Ok_slD_str {lo hi : Option Int} : Ok (slD (t, .str x) lo hi) Q ↔ x.length ≤ lim ∧ Q (.N, .str (cutS x lo hi)) := by
  show Ok (if _ then _ else none) Q ↔ _
  rw [Ok_of_if, Ok_some]
/-- x[i] = e -/
def putR (n : Nat) (env : Ev) (ds : List D) (r k : TD) : Option Out := match r.1, k.2 with
  | .N, .int j => (ixN ds.length j).map fun m => .nx (env.put n (.own (ds.set m r.2)))
  | _, _ => none
def putK' (n : Nat) (g : FE) (env : Ev) (r : TD) : Sl → Option Out
  | .own ds => (g env).bind (putR n env ds r)
  | _ => none
@[simp] theorem sPut_eq : sPut n g f env = (f env).bind fun r => (env.s[n]?).bind (putK' n g env r) := by
  unfold sPut
  congr 1
  funext r
  cases h : env.s[n]? with
  | none => rfl
  | some s => cases s <;> rfl
@[simp] theorem putK'_own : putK' n g env r (.own ds) = (g env).bind (putR n env ds r) := rfl
@[simp] theorem putR_N : putR n env ds (.N, d) (t, .int j) = (ixN ds.length j).map fun m => .nx (env.put n (.own (ds.set m d))) := rfl
@[simp] theorem wipeE_nil : wipeE env [] = env := rfl
@[simp] theorem wipeE_cons {v : Nat} {vs : List Nat} : wipeE env (v :: vs) = (wipeE env vs).put v .un := rfl
/-! the places of a list -/
theorem Ok_atI {α : Type} {xs : List α} {k : Int} {P : α → Prop} (h0 : 0 ≤ k) (h1 : k < xs.length) (h : ∀ x, xs[k.toNat]? = some x → P x) : Ok (atI xs k) P := by
  obtain ⟨m, rfl⟩ : ∃ m : Nat, k = (m : Int) := ⟨k.toNat, by omega⟩
  have hm : m < xs.length := by omega
  exact ⟨xs[m], atI_nat (List.getElem?_eq_getElem hm), h _ (by simp [hm])⟩
/-! loops -/
theorem forL_inv {A : FS} {s : TD → Ev → Option Ev} {Q : Out → Prop} : ∀ {items : List TD} (I : Nat → Ev → Prop) (k0 : Nat) {env : Ev}, I k0 env →
    (∀ (k : Nat) (r : TD) (env : Ev), items[k]? = some r → I (k0 + k) env → Ok (s r env) fun e1 => Ok (A e1) fun o => match o with
      | .nx e => I (k0 + k + 1) e
      | .ct e => I (k0 + k + 1) e
      | .bk e => Q (.nx e)
      | o => Q o) → (∀ env, I (k0 + items.length) env → Q (.nx env)) → Ok (forL A s items env) Q
  | [], I, k0, env, h0, _, he => by rw [forL_nil]; exact Ok_some.mpr (he env h0)
  | r :: rs, I, k0, env, h0, hs, he => by
    rw [forL_cons]
    obtain ⟨e1, q1, o, q2, q3⟩ := hs 0 r env rfl h0
    rw [q1]
    show Ok ((A e1).bind _) Q
    rw [q2]
    have next : ∀ e, I (k0 + 1) e → Ok (forL A s rs e) Q := fun e hi => forL_inv I (k0 + 1) hi (fun k r env hk hI => by
      have := hs (k + 1) r env (by simpa using hk) (by rw [Nat.add_assoc, Nat.add_comm 1 k] at hI; exact hI)
      rw [Nat.add_assoc k0 1 k, Nat.add_comm 1 k]
      exact this) (fun env hI => he env (by rw [List.length_cons, Nat.add_comm rs.length 1, ← Nat.add_assoc]; exact hI))
    cases o with
    | nx e => exact next e q3
    | ct e => exact next e q3
    | bk e => exact Ok_some.mpr q3
    | rt r => exact Ok_some.mpr q3
    | rth x T => exact Ok_some.mpr q3
/-- a loop, from its first turn -/
theorem forL_ok {A : FS} {s : TD → Ev → Option Ev} {Q : Out → Prop} {items : List TD} (I : Nat → Ev → Prop) {env : Ev} (h0 : I 0 env)
    (hs : ∀ (k : Nat) (r : TD) (env : Ev), items[k]? = some r → I k env → Ok (s r env) fun e1 => Ok (A e1) fun o => match o with
      | .nx e => I (k + 1) e
      | .ct e => I (k + 1) e
      | .bk e => Q (.nx e)
      | o => Q o) (he : ∀ env, I items.length env → Q (.nx env)) : Ok (forL A s items env) Q :=
  forL_inv I 0 h0 (fun k r env hk hI => by simpa using hs k r env hk (by simpa using hI)) (fun env hI => he env (by simpa using hI))
/-- a while, by a measure -/
theorem whL_ok {c : FT} {A : FS} {Q : Out → Prop} (I : Nat → Ev → Prop) : ∀ (m N : Nat) {env : Ev}, m < N → I m env →
    (∀ (m : Nat) (env : Ev), I m env → Ok (c env) fun b => if b then Ok (A env) fun o => match o with
      | .nx e => ∃ m', m' < m ∧ I m' e
      | .ct e => ∃ m', m' < m ∧ I m' e
      | .bk e => Q (.nx e)
      | o => Q o else Q (.nx env)) → Ok (whL c A N env) Q := by
  intro m
  induction m using Nat.strongRecOn with
  | ind m ih =>
    intro N env hN hI hs
    obtain ⟨N, rfl⟩ : ∃ k, N = k + 1 := ⟨N - 1, by omega⟩
    obtain ⟨b, e1, q1⟩ := hs m env hI
    cases b with
    | false =>
      rw [whL_f N e1]
      exact Ok_some.mpr (by simpa using q1)
    | true =>
      obtain ⟨o, e2, q2⟩ := (by simpa using q1 : Ok (A env) _)
      unfold whL
      rw [e1]
      show Ok ((A env).bind _) Q
      rw [e2]
      cases o with
      | nx e => obtain ⟨m', h1, h2⟩ := q2; exact ih m' h1 N (by omega) h2 hs
      | ct e => obtain ⟨m', h1, h2⟩ := q2; exact ih m' h1 N (by omega) h2 hs
      | bk e => exact Ok_some.mpr q2
      | rt r => exact Ok_some.mpr q2
      | rth x T => exact Ok_some.mpr q2
/-! comprehensions: each item by itself -/
theorem lcL_map {fe : FE} {s : TD → Ev → Option Ev} {env : Ev} {F : TD → D} : ∀ {rs : List TD}, (∀ r ∈ rs, Ok (s r env) fun e => Ok (fe e) fun y => y = (.N, F r)) → lcL sYes fe s env rs = some (rs.map fun r => (.N, F r))
  | [], _ => rfl
  | r :: rs, h => by
    obtain ⟨e, q1, y, q2, q3⟩ := h r List.mem_cons_self
    subst q3
    have ih := lcL_map (rs := rs) fun r hr => h r (List.mem_cons_of_mem _ hr)
    unfold lcL
    rw [q1, ih]
    simp [q2, okT]
theorem lcL_fil {ct : FT} {fe : FE} {s : TD → Ev → Option Ev} {env : Ev} {p : TD → Bool} {F : TD → D} : ∀ {rs : List TD}, (∀ r ∈ rs, Ok (s r env) fun e => Ok (ct e) fun b => b = p r ∧ (p r = true → Ok (fe e) fun y => y = (.N, F r))) → lcL ct fe s env rs = some ((rs.filter p).map fun r => (.N, F r))
  | [], _ => rfl
  | r :: rs, h => by
    obtain ⟨e, q1, b, q2, q3, q4⟩ := h r List.mem_cons_self
    have ih := lcL_fil (rs := rs) fun r hr => h r (List.mem_cons_of_mem _ hr)
    unfold lcL
    rw [q1, ih]
    cases hb : p r with
    | false => simp [q2, q3, hb]
    | true =>
      obtain ⟨y, q5, q6⟩ := q4 hb
      simp [q2, q3, hb, q5, q6, okT]
inductive All2 {α β : Type} (P : α → β → Prop) : List α → List β → Prop
  | nil : All2 P [] []
  | cons {x : α} {y : β} {xs : List α} {ys : List β} : P x y → All2 P xs ys → All2 P (x :: xs) (y :: ys)
theorem All2.length {α β : Type} {P : α → β → Prop} : ∀ {xs : List α} {ys : List β}, All2 P xs ys → ys.length = xs.length
  | _, _, .nil => rfl
  | _, _, .cons _ r => congrArg Nat.succ r.length
theorem All2.get {α β : Type} {P : α → β → Prop} : ∀ {xs : List α} {ys : List β} {k : Nat} {y : β}, All2 P xs ys → ys[k]? = some y → ∃ x, xs[k]? = some x ∧ P x y
  | _, _, _, _, .nil, e => by simp at e
  | _, _, 0, _, .cons h _, e => by simp at e; subst e; exact ⟨_, rfl, h⟩
  | _, _, k + 1, _, .cons _ r, e => by simpa using r.get (k := k) (by simpa using e)
theorem All2.mem {α β : Type} {P : α → β → Prop} : ∀ {xs : List α} {ys : List β} {y : β}, All2 P xs ys → y ∈ ys → ∃ x ∈ xs, P x y
  | _, _, _, .nil, h => by simp at h
  | _, _, _, .cons (x := x) h r, e => (List.mem_cons.mp e).elim (fun q => ⟨x, List.mem_cons_self, by rw [q]; exact h⟩) fun q => let ⟨x', h1, h2⟩ := r.mem q; ⟨x', List.mem_cons_of_mem _ h1, h2⟩
/-- by what is asked of each item -/
theorem lcL_ok {fe : FE} {s : TD → Ev → Option Ev} {env : Ev} {P : TD → D → Prop} : ∀ {rs : List TD}, (∀ r ∈ rs, Ok (s r env) fun e => Ok (fe e) fun y => y.1 = .N ∧ P r y.2) →
    Ok (lcL sYes fe s env rs) fun ys => ∃ ds, ys = ds.map (fun d => (Tg.N, d)) ∧ All2 P rs ds
  | [], _ => ⟨[], rfl, [], rfl, .nil⟩
  | r :: rs, h => by
    obtain ⟨e, q1, ⟨t, d⟩, q2, q3, q4⟩ := h r List.mem_cons_self
    obtain ⟨ys, q5, ds, q6, q7⟩ := lcL_ok (rs := rs) fun r hr => h r (List.mem_cons_of_mem _ hr)
    have q3 : t = .N := q3
    subst q3
    subst q6
    refine ⟨(Tg.N, d) :: ds.map (fun d => (Tg.N, d)), ?_, d :: ds, rfl, .cons q4 q7⟩
    unfold lcL
    rw [q1, q5]
    simp [q2, okT]
/-- .. each worth a thing of some kind -/
theorem lcL_mk {α : Type} (f : α → D) (P : TD → α → Prop) {fe : FE} {s : TD → Ev → Option Ev} {env : Ev} : ∀ {rs : List TD}, (∀ r ∈ rs, Ok (s r env) fun e => Ok (fe e) fun y => ∃ a, y = (.N, f a) ∧ P r a) →
    ∃ as : List α, lcL sYes fe s env rs = some (as.map fun a => (Tg.N, f a)) ∧ All2 P rs as
  | [], _ => ⟨[], rfl, .nil⟩
  | r :: rs, h => by
    obtain ⟨e, q1, y, q2, a, rfl, q4⟩ := h r List.mem_cons_self
    obtain ⟨as, q5, q7⟩ := lcL_mk f P (rs := rs) fun r hr => h r (List.mem_cons_of_mem _ hr)
    refine ⟨a :: as, ?_, .cons q4 q7⟩
    unfold lcL
    rw [q1, q5]
    simp [q2, okT]
@[simp] theorem map_snd {α : Type} (xs : List α) (F : α → D) : (xs.map fun r => (Tg.N, F r)).map (fun x : TD => x.2) = xs.map F := by
  rw [List.map_map]; rfl
@[simp] theorem map_snd' {α : Type} (xs : List α) (F : α → D) : xs.map ((fun x : TD => x.2) ∘ fun r => (Tg.N, F r)) = xs.map F := rfl
@[simp] theorem map_nmN {α : Type} (xs : List α) (F : α → D) : (xs.map F).map (fun d => nm (Tg.N, d)) = xs.map fun r => (Tg.N, F r) := by
  rw [List.map_map]; simp [Function.comp_def]
@[simp] theorem tagL_Ns (ds : List D) : tagL (ds.map fun d => (Tg.N, d)) = .N := tagL_N fun r hr => by
  obtain ⟨d, _, rfl⟩ := List.mem_map.mp hr
  rfl
@[simp] theorem tagL_NF {α : Type} (xs : List α) (F : α → D) : tagL (xs.map fun r => (Tg.N, F r)) = .N := tagL_N fun r hr => by
  obtain ⟨d, _, rfl⟩ := List.mem_map.mp hr
  rfl
end
end Vf
namespace Lw
open PySem L2 Vf
abbrev N_law_is : List Str := ["told", "due"]
noncomputable def F_law_is : FS := (sRet (sAndV (sCall g_law_whole (sCons (sVar 0) sNil)) (sOp oEq (sVar 0) (sVar 1))))
noncomputable def g_law_is : List TD → Option TD := gF 2 N_law_is.length F_law_is
theorem len_law_is : ∀ rs r, g_law_is rs = some r → rs.length = 2 := gF_len
theorem okt_law_is : ∀ rs r, g_law_is rs = some r → okT r.1 = true := gF_ok
theorem sem_law_is : ∀ rs r, rs.all (fun r => okT r.1) = true → g_law_is rs = some r → (F_law_is (env0 N_law_is.length rs)).bind fin = some r := gF_sem
abbrev N_law_parts : List Str := ["script", "k", "row", "parts"]
noncomputable def F_law_parts : FS := (sSeq (sSet 2 (sCall g_law_digits (sCons (sCall g_law_cell (sCons (sVar 0) (sCons (sVar 1) sNil))) (sCons (sL (sLd (sCons (sLit (.int 3)) (sCons (sLit (.int 40)) (sCons (sLit (.int 8)) (sCons (sLit (.int 3)) (sCons (sLit (.int 1001)) (sCons (sLit (.int 10)) (sCons (sLit (.int 3)) (sCons (sLit (.int 2)) (sCons (sLit (.int 3)) (sCons (sLit (.int 60001)) (sCons (sLit (.int 12)) sNil))))))))))))) sNil)))) (sSeq (sOwn 3 (sLd (sCons (sOp oIx (sVar 2) (sLit (.int 1))) (sCons (sOp oIx (sVar 2) (sLit (.int 4))) (sCons (sOp oIx (sVar 2) (sLit (.int 6))) (sCons (sOp oIx (sVar 2) (sLit (.int 7))) (sCons (sOp oIx (sVar 2) (sLit (.int 9))) sNil))))))) (sSeq (sIf (sBl (sOp oEq (sOp oIx (sVar 2) (sLit (.int 0))) (sLit (.int 0))))
  (sPut 3 (sLit (.int 0)) (sOp oIx (sL (sLd (sCons (sLit (.int 0)) (sCons (sLit (.int 39)) (sCons (sLit (.int 1)) (sCons (sLit (.int 38)) (sCons (sLit (.int 31)) (sCons (sLit (.int 32)) (sCons (sLit (.int 15)) (sCons (sLit (.int 16)) sNil)))))))))) (sOp oIx (sVar 2) (sLit (.int 2)))))
  sNx) (sSeq (sIf (sBl (sOp oEq (sOp oIx (sVar 2) (sLit (.int 3))) (sLit (.int 0))))
  (sPut 3 (sLit (.int 1)) (sOp oIx (sL (sLd (sCons (sLit (.int 0)) (sCons (sLit (.int 1)) (sCons (sLit (.int 1000)) (sCons (sLit (.int 999)) (sCons (sLit (.int 8)) (sCons (sLit (.int 63)) (sCons (sLit (.int 64)) (sCons (sLit (.int 255)) (sCons (sLit (.int 256)) (sCons (sLit (.int 512)) sNil)))))))))))) (sOp oIx (sVar 2) (sLit (.int 5)))))
  sNx) (sSeq (sIf (sBl (sOp oEq (sOp oIx (sVar 2) (sLit (.int 8))) (sLit (.int 0))))
  (sPut 3 (sLit (.int 4)) (sOp oIx (sL (sLd (sCons (sLit (.int 0)) (sCons (sLit (.int 1)) (sCons (sLit (.int 60000)) (sCons (sLit (.int 59999)) (sCons (sLit (.int 2)) (sCons (sLit (.int 255)) (sCons (sLit (.int 256)) (sCons (sLit (.int 4095)) (sCons (sLit (.int 4096)) (sCons (sLit (.int 32767)) (sCons (sLit (.int 32768)) (sCons (sLit (.int 20001)) sNil)))))))))))))) (sOp oIx (sVar 2) (sLit (.int 10)))))
  sNx) (sRet (sVar 3)))))))
noncomputable def g_law_parts : List TD → Option TD := gF 2 N_law_parts.length F_law_parts
theorem len_law_parts : ∀ rs r, g_law_parts rs = some r → rs.length = 2 := gF_len
theorem okt_law_parts : ∀ rs r, g_law_parts rs = some r → okT r.1 = true := gF_ok
theorem sem_law_parts : ∀ rs r, rs.all (fun r => okT r.1) = true → g_law_parts rs = some r → (F_law_parts (env0 N_law_parts.length rs)).bind fin = some r := gF_sem
def G_SHAPE_SPAN : D := (.int (64))
abbrev N_form_word : List Str := ["shape_number", "length"]
noncomputable def F_form_word : FS := (sRet (sOp oAdd (sOp oMul (sLit G_SHAPE_SPAN) (sVar 1)) (sVar 0)))
noncomputable def g_form_word : List TD → Option TD := gF 2 N_form_word.length F_form_word
theorem len_form_word : ∀ rs r, g_form_word rs = some r → rs.length = 2 := gF_len
theorem okt_form_word : ∀ rs r, g_form_word rs = some r → okT r.1 = true := gF_ok
theorem sem_form_word : ∀ rs r, rs.all (fun r => okT r.1) = true → g_form_word rs = some r → (F_form_word (env0 N_form_word.length rs)).bind fin = some r := gF_sem
def G_COLOUR_SPAN : D := (.int (4))
def G_FORWARD_UNIT : D := (.int (8))
abbrev N_state_word : List Str := ["colour", "remembered", "forward"]
noncomputable def F_state_word : FS := (sRet (sOp oAdd (sOp oAdd (sOp oMul (sLit G_FORWARD_UNIT) (sVar 2)) (sOp oMul (sLit G_COLOUR_SPAN) (sVar 1))) (sVar 0)))
noncomputable def g_state_word : List TD → Option TD := gF 3 N_state_word.length F_state_word
theorem len_state_word : ∀ rs r, g_state_word rs = some r → rs.length = 3 := gF_len
theorem okt_state_word : ∀ rs r, g_state_word rs = some r → okT r.1 = true := gF_ok
theorem sem_state_word : ∀ rs r, rs.all (fun r => okT r.1) = true → g_state_word rs = some r → (F_state_word (env0 N_state_word.length rs)).bind fin = some r := gF_sem
abbrev N_shape_number_of : List Str := ["word"]
noncomputable def F_shape_number_of : FS := (sRet (sOp oMod (sVar 0) (sLit G_SHAPE_SPAN)))
noncomputable def g_shape_number_of : List TD → Option TD := gF 1 N_shape_number_of.length F_shape_number_of
theorem len_shape_number_of : ∀ rs r, g_shape_number_of rs = some r → rs.length = 1 := gF_len
theorem okt_shape_number_of : ∀ rs r, g_shape_number_of rs = some r → okT r.1 = true := gF_ok
theorem sem_shape_number_of : ∀ rs r, rs.all (fun r => okT r.1) = true → g_shape_number_of rs = some r → (F_shape_number_of (env0 N_shape_number_of.length rs)).bind fin = some r := gF_sem
abbrev N_length_of : List Str := ["word"]
noncomputable def F_length_of : FS := (sRet (sOp oFd (sVar 0) (sLit G_SHAPE_SPAN)))
noncomputable def g_length_of : List TD → Option TD := gF 1 N_length_of.length F_length_of
theorem len_length_of : ∀ rs r, g_length_of rs = some r → rs.length = 1 := gF_len
theorem okt_length_of : ∀ rs r, g_length_of rs = some r → okT r.1 = true := gF_ok
theorem sem_length_of : ∀ rs r, rs.all (fun r => okT r.1) = true → g_length_of rs = some r → (F_length_of (env0 N_length_of.length rs)).bind fin = some r := gF_sem
abbrev N_colour_of : List Str := ["word"]
noncomputable def F_colour_of : FS := (sRet (sOp oMod (sVar 0) (sLit G_COLOUR_SPAN)))
noncomputable def g_colour_of : List TD → Option TD := gF 1 N_colour_of.length F_colour_of
theorem len_colour_of : ∀ rs r, g_colour_of rs = some r → rs.length = 1 := gF_len
theorem okt_colour_of : ∀ rs r, g_colour_of rs = some r → okT r.1 = true := gF_ok
theorem sem_colour_of : ∀ rs r, rs.all (fun r => okT r.1) = true → g_colour_of rs = some r → (F_colour_of (env0 N_colour_of.length rs)).bind fin = some r := gF_sem
abbrev N_remembered_of : List Str := ["word"]
noncomputable def F_remembered_of : FS := (sRet (sOp oFd (sOp oMod (sVar 0) (sLit G_FORWARD_UNIT)) (sLit G_COLOUR_SPAN)))
noncomputable def g_remembered_of : List TD → Option TD := gF 1 N_remembered_of.length F_remembered_of
theorem len_remembered_of : ∀ rs r, g_remembered_of rs = some r → rs.length = 1 := gF_len
theorem okt_remembered_of : ∀ rs r, g_remembered_of rs = some r → okT r.1 = true := gF_ok
theorem sem_remembered_of : ∀ rs r, rs.all (fun r => okT r.1) = true → g_remembered_of rs = some r → (F_remembered_of (env0 N_remembered_of.length rs)).bind fin = some r := gF_sem
abbrev N_forward_of : List Str := ["word"]
noncomputable def F_forward_of : FS := (sRet (sOp oFd (sVar 0) (sLit G_FORWARD_UNIT)))
noncomputable def g_forward_of : List TD → Option TD := gF 1 N_forward_of.length F_forward_of
theorem len_forward_of : ∀ rs r, g_forward_of rs = some r → rs.length = 1 := gF_len
theorem okt_forward_of : ∀ rs r, g_forward_of rs = some r → okT r.1 = true := gF_ok
theorem sem_forward_of : ∀ rs r, rs.all (fun r => okT r.1) = true → g_forward_of rs = some r → (F_forward_of (env0 N_forward_of.length rs)).bind fin = some r := gF_sem
abbrev N_law_read : List Str := ["parts", "form", "state"]
noncomputable def F_law_read : FS := (sSeq (sIf (sOrT (sNotT (sTru (sCall g_law_is (sCons (sCall g_shape_number_of (sCons (sVar 1) sNil)) (sCons (sOp oIx (sVar 0) (sLit (.int 0))) sNil))))) (sNotT (sTru (sCall g_law_is (sCons (sCall g_length_of (sCons (sVar 1) sNil)) (sCons (sOp oIx (sVar 0) (sLit (.int 1))) sNil))))))
  (sRet (sLit (.bl false)))
  sNx) (sSeq (sIf (sOrT (sNotT (sTru (sCall g_law_is (sCons (sCall g_colour_of (sCons (sVar 2) sNil)) (sCons (sOp oIx (sVar 0) (sLit (.int 2))) sNil))))) (sNotT (sTru (sCall g_law_is (sCons (sCall g_remembered_of (sCons (sVar 2) sNil)) (sCons (sOp oIx (sVar 0) (sLit (.int 3))) sNil))))))
  (sRet (sLit (.bl false)))
  sNx) (sRet (sCall g_law_is (sCons (sCall g_forward_of (sCons (sVar 2) sNil)) (sCons (sOp oIx (sVar 0) (sLit (.int 4))) sNil))))))
noncomputable def g_law_read : List TD → Option TD := gF 3 N_law_read.length F_law_read
theorem len_law_read : ∀ rs r, g_law_read rs = some r → rs.length = 3 := gF_len
theorem okt_law_read : ∀ rs r, g_law_read rs = some r → okT r.1 = true := gF_ok
theorem sem_law_read : ∀ rs r, rs.all (fun r => okT r.1) = true → g_law_read rs = some r → (F_law_read (env0 N_law_read.length rs)).bind fin = some r := gF_sem
def G_BLACK : D := (.int (2))
def G_GRAY : D := (.int (1))
def G_WHITE : D := (.int (0))
abbrev N_law : List Str := ["script", "rows", "k", "words", "parts", "form", "state"]
noncomputable def B_law_1 : FS := (sSeq (sSet 5 (sCall g_form_word (sCons (sOp oIx (sVar 4) (sLit (.int 0))) (sCons (sOp oIx (sVar 4) (sLit (.int 1))) sNil)))) (sSeq (sSet 6 (sCall g_state_word (sCons (sOp oIx (sVar 4) (sLit (.int 2))) (sCons (sOp oIx (sVar 4) (sLit (.int 3))) (sCons (sOp oIx (sVar 4) (sLit (.int 4))) sNil))))) (sSeq (sIf (sOrT (sNotT (sTru (sCall g_law_is (sCons (sVar 5) (sCons (sOp oAdd (sOp oMul (sLit (.int 64)) (sOp oIx (sVar 4) (sLit (.int 1)))) (sOp oIx (sVar 4) (sLit (.int 0)))) sNil))))) (sNotT (sTru (sCall g_law_is (sCons (sVar 6) (sCons (sOp oAdd (sOp oAdd (sOp oMul (sLit (.int 8)) (sOp oIx (sVar 4) (sLit (.int 4)))) (sOp oMul (sLit (.int 4)) (sOp oIx (sVar 4) (sLit (.int 3))))) (sOp oIx (sVar 4) (sLit (.int 2)))) sNil))))))
  (sRet (sLit (.bl false)))
  sNx) (sApp 3 (sL (sLd (sCons (sVar 5) (sCons (sVar 6) sNil))))))))
noncomputable def B_law_2 : FS := (sIf (sNotT (sTru (sCall g_law_read (sCons (sOp oIx (sVar 1) (sVar 2)) (sCons (sOp oIx (sOp oIx (sVar 3) (sVar 2)) (sLit (.int 0))) (sCons (sOp oIx (sOp oIx (sVar 3) (sVar 2)) (sLit (.int 1))) sNil))))))
  (sRet (sLit (.bl false)))
  sNx)
noncomputable def B_law_3 : FS := (sIf (sNotT (sTru (sCall g_law_read (sCons (sOp oIx (sVar 1) (sOp oSub (sLit (.int 8)) (sVar 2))) (sCons (sOp oIx (sOp oIx (sVar 3) (sOp oSub (sLit (.int 8)) (sVar 2))) (sLit (.int 0))) (sCons (sOp oIx (sOp oIx (sVar 3) (sOp oSub (sLit (.int 8)) (sVar 2))) (sLit (.int 1))) sNil))))))
  (sRet (sLit (.bl false)))
  sNx)
noncomputable def F_law : FS := (sSeq (sIf (sOrT (sNotT (sTru (sCall g_law_is (sCons (sLit G_WHITE) (sCons (sLit (.int 0)) sNil))))) (sOrT (sNotT (sTru (sCall g_law_is (sCons (sLit G_GRAY) (sCons (sLit (.int 1)) sNil))))) (sNotT (sTru (sCall g_law_is (sCons (sLit G_BLACK) (sCons (sLit (.int 2)) sNil)))))))
  (sRet (sLit (.bl false)))
  sNx) (sSeq (sSet 1 (sL (sLc (sR1 (sLit (.int 9))) (setV 2) sYes (sCall g_law_parts (sCons (sVar 0) (sCons (sVar 2) sNil))) [2]))) (sSeq (sOwn 3 (sLd sNil)) (sSeq (sFor (sIt (sVar 1)) (setV 4)
  B_law_1) (sSeq (sFor (sR1 (sLit (.int 9))) (setV 2)
  B_law_2) (sSeq (sFor (sR1 (sLit (.int 9))) (setV 2)
  B_law_3) (sRet (sLit (.bl true)))))))))
@[simp] theorem whole_int (t : Tg) (n : Int) : g_law_whole [(t, .int n)] = some (.N, .bl true) := rfl
@[simp] theorem is_at (a b : Int) : g_law_is [(.N, .int a), (.N, .int b)] = some (.N, .bl (decide (a = b))) := by
  unfold g_law_is
  refine (gF_at (by rfl) (by rfl)).trans ?_
  simp [F_law_is]
structure PartsOk (a b c d e : Int) : Prop where
  a0 : 0 ≤ a ∧ a < 40
  b0 : 0 ≤ b ∧ b < 1001
  c0 : 0 ≤ c ∧ c < 3
  d0 : 0 ≤ d ∧ d < 2
  e0 : 0 ≤ e ∧ e < 60001
abbrev szP : List Int := [3, 40, 8, 3, 1001, 10, 3, 2, 3, 60001, 12]
theorem szP_ok : SizesOk szP := ⟨by decide, by decide⟩
theorem form_at {a b c d e : Int} (h : PartsOk a b c d e) : g_form_word [(.N, .int a), (.N, .int b)] = some (.N, .int (64 * b + a)) := by
  obtain ⟨a0, b0, c0, d0, e0⟩ := h
  unfold g_form_word
  refine (gF_at (by rfl) (by rfl)).trans (Ok.eq ?_)
  simp [F_form_word, G_SHAPE_SPAN]
  exact bits_sm (by omega) (by omega) (by omega) (by omega)
theorem state_at {a b c d e : Int} (h : PartsOk a b c d e) : g_state_word [(.N, .int c), (.N, .int d), (.N, .int e)] = some (.N, .int (8 * e + 4 * d + c)) := by
  obtain ⟨a0, b0, c0, d0, e0⟩ := h
  unfold g_state_word
  refine (gF_at (by rfl) (by rfl)).trans (Ok.eq ?_)
  simp [F_state_word, G_FORWARD_UNIT, G_COLOUR_SPAN]
  exact ⟨bits_sm (by omega) (by omega) (by omega) (by omega), bits_sm (by omega) (by omega) (by omega) (by omega)⟩
def partsD (a b c d e : Int) : D := .lst [.int a, .int b, .int c, .int d, .int e]
theorem read_at {a b c d e : Int} (h : PartsOk a b c d e) : g_law_read [(.N, partsD a b c d e), (.N, .int (64 * b + a)), (.N, .int (8 * e + 4 * d + c))] = some (.N, .bl true) := by
  obtain ⟨a0, b0, c0, d0, e0⟩ := h
  have r1 : g_shape_number_of [(.N, .int (64 * b + a))] = some (.N, .int a) := by
    unfold g_shape_number_of
    refine (gF_at (by rfl) (by rfl)).trans (Ok.eq ?_)
    simp [F_shape_number_of, G_SHAPE_SPAN]
    omega
  have r2 : g_length_of [(.N, .int (64 * b + a))] = some (.N, .int b) := by
    unfold g_length_of
    refine (gF_at (by rfl) (by rfl)).trans (Ok.eq ?_)
    simp [F_length_of, G_SHAPE_SPAN]
    omega
  have r3 : g_colour_of [(.N, .int (8 * e + 4 * d + c))] = some (.N, .int c) := by
    unfold g_colour_of
    refine (gF_at (by rfl) (by rfl)).trans (Ok.eq ?_)
    simp [F_colour_of, G_COLOUR_SPAN]
    omega
  have r4 : g_remembered_of [(.N, .int (8 * e + 4 * d + c))] = some (.N, .int d) := by
    unfold g_remembered_of
    refine (gF_at (by rfl) (by rfl)).trans (Ok.eq ?_)
    simp [F_remembered_of, G_COLOUR_SPAN, G_FORWARD_UNIT]
    omega
  have r5 : g_forward_of [(.N, .int (8 * e + 4 * d + c))] = some (.N, .int e) := by
    unfold g_forward_of
    refine (gF_at (by rfl) (by rfl)).trans (Ok.eq ?_)
    simp [F_forward_of, G_FORWARD_UNIT]
    omega
  have i0 : atI [D.int a, .int b, .int c, .int d, .int e] 0 = some (.int a) := rfl
  have i1 : atI [D.int a, .int b, .int c, .int d, .int e] 1 = some (.int b) := rfl
  have i2 : atI [D.int a, .int b, .int c, .int d, .int e] 2 = some (.int c) := rfl
  have i3 : atI [D.int a, .int b, .int c, .int d, .int e] 3 = some (.int d) := rfl
  have i4 : atI [D.int a, .int b, .int c, .int d, .int e] 4 = some (.int e) := rfl
  unfold g_law_read
  refine (gF_at (by rfl) (by rfl)).trans (Ok.eq ?_)
  simp [F_law_read, partsD, r1, r2, r3, r4, r5, i0, i1, i2, i3, i4]
theorem menu_at (xs : List Int) {lo hi j : Int} (h : ∀ v ∈ xs, lo ≤ v ∧ v < hi) (h0 : 0 ≤ j) (h1 : j < xs.length) : ∃ v, (lo ≤ v ∧ v < hi) ∧ atI (xs.map D.int) j = some (.int v) := by
  obtain ⟨m, rfl⟩ : ∃ m : Nat, j = (m : Int) := ⟨j.toNat, by omega⟩
  have hm : m < xs.length := by omega
  exact ⟨xs[m], h _ (List.getElem_mem _), atI_map hm⟩
/-- the digits of a row, one by one -/
theorem digit_at {c : Int} {ss : List Int} (h : SizesOk ss) (k : Nat) (hk : k < ss.length) : ∃ d : Int, atI ((digitsM c ss).map D.int) (k : Int) = some (.int d) ∧ 0 ≤ d ∧ d < ss[k] := by
  obtain ⟨d, e, h1⟩ := digitsM_get (c := c) h k hk
  refine ⟨d, atI_nat ?_, h1⟩
  rw [List.getElem?_map, e]
  rfl
theorem parts_at {ns : List Int} (hn : LawOk ns) (k : Nat) (hk : k < 9) : ∃ a b c d e, g_law_parts [(.B, .scr (ns.map D.int)), (.N, .int k)] = some (.N, partsD a b c d e) ∧ PartsOk a b c d e := by
  have hc : ∀ t, g_law_cell [(t, .scr (ns.map D.int)), (.N, .int (k : Int))] = some (.N, .int (cellM ns k)) := fun t => g_law_cell_at hn (by omega)
  have hd : ∀ t u, g_law_digits [(t, .int (cellM ns k)), (u, .lst [.int 3, .int 40, .int 8, .int 3, .int 1001, .int 10, .int 3, .int 2, .int 3, .int 60001, .int 12])] = some (.N, .lst ((digitsM (cellM ns k) szP).map D.int)) := fun t u => g_law_digits_at szP_ok
  obtain ⟨d0, e0, l0, u0⟩ := digit_at (c := cellM ns k) szP_ok 0 (by decide)
  obtain ⟨d1, e1, l1, u1⟩ := digit_at (c := cellM ns k) szP_ok 1 (by decide)
  obtain ⟨d2, e2, l2, u2⟩ := digit_at (c := cellM ns k) szP_ok 2 (by decide)
  obtain ⟨d3, e3, l3, u3⟩ := digit_at (c := cellM ns k) szP_ok 3 (by decide)
  obtain ⟨d4, e4, l4, u4⟩ := digit_at (c := cellM ns k) szP_ok 4 (by decide)
  obtain ⟨d5, e5, l5, u5⟩ := digit_at (c := cellM ns k) szP_ok 5 (by decide)
  obtain ⟨d6, e6, l6, u6⟩ := digit_at (c := cellM ns k) szP_ok 6 (by decide)
  obtain ⟨d7, e7, l7, u7⟩ := digit_at (c := cellM ns k) szP_ok 7 (by decide)
  obtain ⟨d8, e8, l8, u8⟩ := digit_at (c := cellM ns k) szP_ok 8 (by decide)
  obtain ⟨d9, e9, l9, u9⟩ := digit_at (c := cellM ns k) szP_ok 9 (by decide)
  obtain ⟨d10, e10, l10, u10⟩ := digit_at (c := cellM ns k) szP_ok 10 (by decide)
  have hd := hd
  generalize (digitsM (cellM ns k) szP).map D.int = R at *
  simp only [szP, List.getElem_cons_zero, List.getElem_cons_succ] at u0 u1 u2 u3 u4 u5 u6 u7 u8 u9 u10
  have m1 : ∃ v, (0 ≤ v ∧ v < 40) ∧ atI [D.int 0, .int 39, .int 1, .int 38, .int 31, .int 32, .int 15, .int 16] d2 = some (.int v) := menu_at [0, 39, 1, 38, 31, 32, 15, 16] (by decide) (by omega) (by simp; omega)
  have m2 : ∃ v, (0 ≤ v ∧ v < 1001) ∧ atI [D.int 0, .int 1, .int 1000, .int 999, .int 8, .int 63, .int 64, .int 255, .int 256, .int 512] d5 = some (.int v) := menu_at [0, 1, 1000, 999, 8, 63, 64, 255, 256, 512] (by decide) (by omega) (by simp; omega)
  have m3 : ∃ v, (0 ≤ v ∧ v < 60001) ∧ atI [D.int 0, .int 1, .int 60000, .int 59999, .int 2, .int 255, .int 256, .int 4095, .int 4096, .int 32767, .int 32768, .int 20001] d10 = some (.int v) := menu_at [0, 1, 60000, 59999, 2, 255, 256, 4095, 4096, 32767, 32768, 20001] (by decide) (by omega) (by simp; omega)
  obtain ⟨v1, w1, m1⟩ := m1
  obtain ⟨v2, w2, m2⟩ := m2
  obtain ⟨v3, w3, m3⟩ := m3
  refine ⟨if d0 = 0 then v1 else d1, if d3 = 0 then v2 else d4, d6, d7, if d8 = 0 then v3 else d9, ?_, ⟨by split <;> omega, by split <;> omega, by omega, by omega, by split <;> omega⟩⟩
  unfold g_law_parts
  refine (gF_at (by rfl) (by rfl)).trans (Ok.eq ?_)
  simp at e0 e1 e2 e3 e4 e5 e6 e7 e8 e9 e10
  have p0 : ixN 5 0 = some 0 := by decide
  have p1 : ixN 5 1 = some 1 := by decide
  have p4 : ixN 5 4 = some 4 := by decide
  by_cases c0 : d0 = 0 <;> by_cases c3 : d3 = 0 <;> by_cases c8 : d8 = 0 <;>
    simp [F_law_parts, hc, hd, e0, e1, e2, e3, e4, e5, e6, e7, e8, e9, e10, c0, c3, c8, m1, m2, m3, lim, p0, p1, p4, partsD]
theorem choose_map {α : Type} {f : α → D} {p : α → Prop} : ∀ {ds : List D}, (∀ d ∈ ds, ∃ a, d = f a ∧ p a) → ∃ as : List α, ds = as.map f ∧ ∀ a ∈ as, p a
  | [], _ => ⟨[], rfl, by simp⟩
  | d :: ds, h => by
    obtain ⟨a, e, pa⟩ := h d List.mem_cons_self
    obtain ⟨as, e2, h2⟩ := choose_map (ds := ds) fun x hx => h x (List.mem_cons_of_mem _ hx)
    exact ⟨a :: as, by rw [e, e2]; rfl, by simp [pa]; exact h2⟩
abbrev Pt := Int × Int × Int × Int × Int
def pD (p : Pt) : D := partsD p.1 p.2.1 p.2.2.1 p.2.2.2.1 p.2.2.2.2
def PtOk (p : Pt) : Prop := PartsOk p.1 p.2.1 p.2.2.1 p.2.2.2.1 p.2.2.2.2
def wD (p : Pt) : D := .lst [.int (64 * p.2.1 + p.1), .int (8 * p.2.2.2.2 + 4 * p.2.2.2.1 + p.2.2.1)]
theorem iRng_get {n : Nat} {k : Nat} {r : TD} (h : (iRng n 0)[k]? = some r) : k < n ∧ r = (.N, .int (k : Int)) := by
  unfold iRng at h
  rw [List.getElem?_map] at h
  obtain ⟨j, h1, rfl⟩ := Option.map_eq_some_iff.mp h
  have hi : k < n := by simpa using (List.getElem?_eq_some_iff.mp h1).1
  rw [List.getElem?_range hi] at h1
  cases h1
  exact ⟨hi, by simp⟩
theorem iRng_mem {n : Nat} {r : TD} (h : r ∈ iRng n 0) : ∃ k : Nat, k < n ∧ r = (.N, .int (k : Int)) := by
  obtain ⟨k, hk⟩ := List.mem_iff_getElem?.mp h
  exact ⟨k, iRng_get hk⟩
theorem sem_law : ∀ rs r, rs.all (fun r => okT r.1) = true → gLaw rs = some r → (F_law (env0 N_law.length rs)).bind fin = some r := gLaw_sem (by
  intro ns hn
  obtain ⟨ps, hy, ha⟩ := lcL_mk pD (fun _ p => PtOk p) (fe := sCall g_law_parts (sCons (sVar 0) (sCons (sVar 2) sNil))) (s := setV 2) (env := ⟨[.val .B (.scr (ns.map D.int)), .un, .un, .un, .un, .un, .un], []⟩) (rs := iRng 9 0) (fun r hr => by
    obtain ⟨k, hk, rfl⟩ := iRng_mem hr
    obtain ⟨a, b, c, d, e, h1, h2⟩ := parts_at hn k hk
    simp [h1]
    exact ⟨a, b, c, d, e, rfl, h2⟩)
  have hp : ∀ p ∈ ps, PtOk p := fun p h => (ha.mem h).elim fun _ h => h.2
  have hl : ps.length = 9 := by simpa using ha.length
  have pget : ∀ k, (hk : k < 9) → ∃ p, ps[k]? = some p ∧ PtOk p := fun k hk => ⟨ps[k], by simp [hl, hk], hp _ (List.getElem_mem _)⟩
  have aR : ∀ k : Nat, ∀ p, ps[k]? = some p → atI (ps.map pD) (k : Int) = some (pD p) := fun k p h => atI_nat (by rw [List.getElem?_map, h]; rfl)
  have aW : ∀ k : Nat, ∀ p, ps[k]? = some p → atI (ps.map wD) (k : Int) = some (wD p) := fun k p h => atI_nat (by rw [List.getElem?_map, h]; rfl)
  have rd : ∀ p, PtOk p → g_law_read [(.N, pD p), (.N, .int (64 * p.2.1 + p.1)), (.N, .int (8 * p.2.2.2.2 + 4 * p.2.2.2.1 + p.2.2.1))] = some (.N, .bl true) := fun p h => read_at h
  have w0 : ∀ p : Pt, atI [D.int (64 * p.2.1 + p.1), D.int (8 * p.2.2.2.2 + 4 * p.2.2.2.1 + p.2.2.1)] 0 = some (.int (64 * p.2.1 + p.1)) := fun p => rfl
  have w1 : ∀ p : Pt, atI [D.int (64 * p.2.1 + p.1), D.int (8 * p.2.2.2.2 + 4 * p.2.2.2.1 + p.2.2.1)] 1 = some (.int (8 * p.2.2.2.2 + 4 * p.2.2.2.1 + p.2.2.1)) := fun p => rfl
  refine Ok.eq ?_
  simp [F_law, G_WHITE, G_GRAY, G_BLACK, scrOf, hy, lim, hl]
  refine forL_ok (fun k env => ∃ s4 s5 s6, env = ⟨[.val .B (.scr (ns.map D.int)), .val .N (.lst (ps.map pD)), .un, .own ((ps.take k).map wD), s4, s5, s6], []⟩) ⟨_, _, _, rfl⟩ ?_ ?_
  · rintro k r env hk ⟨s4, s5, s6, rfl⟩
    have hk9 : k < 9 := by simpa [hl] using (List.getElem?_eq_some_iff.mp hk).1
    obtain ⟨p, hpk, ok⟩ := pget k hk9
    simp [hpk] at hk
    subst hk
    obtain ⟨a, b, c, d, e⟩ := p
    have h1 : g_form_word [(.N, .int a), (.N, .int b)] = _ := form_at ok
    have h2 : g_state_word [(.N, .int c), (.N, .int d), (.N, .int e)] = _ := state_at ok
    have i0 : atI [D.int a, .int b, .int c, .int d, .int e] 0 = some (.int a) := rfl
    have i1 : atI [D.int a, .int b, .int c, .int d, .int e] 1 = some (.int b) := rfl
    have i2 : atI [D.int a, .int b, .int c, .int d, .int e] 2 = some (.int c) := rfl
    have i3 : atI [D.int a, .int b, .int c, .int d, .int e] 3 = some (.int d) := rfl
    have i4 : atI [D.int a, .int b, .int c, .int d, .int e] 4 = some (.int e) := rfl
    obtain ⟨a0, b0, c0, d0, e0⟩ := ok
    dsimp only at a0 b0 c0 d0 e0
    have hlim : (ps.take k).length ≤ lim := by simp [lim]; omega
    have hs : (ps.take (k + 1)).map wD = (ps.take k).map wD ++ [wD (a, b, c, d, e)] := by
      rw [List.take_succ, hpk]; simp
    simp [B_law_1, pD, partsD, h1, h2, i0, i1, i2, i3, i4, hs, wD, lim]
    refine ⟨bits_sm (by omega) (by omega) (by omega) (by omega), bits_sm (by omega) (by omega) (by omega) (by omega), bits_sm (by omega) (by omega) (by omega) (by omega), by omega⟩
  · rintro env ⟨s4, s5, s6, rfl⟩
    simp only [List.length_map, List.take_length]
    simp
    refine forL_ok (fun k env => ∃ s2, env = ⟨[.val .B (.scr (ns.map D.int)), .val .N (.lst (ps.map pD)), s2, .own (ps.map wD), s4, s5, s6], []⟩) ⟨_, rfl⟩ ?_ ?_
    · rintro k r env hk ⟨s2, rfl⟩
      obtain ⟨hk9, rfl⟩ := iRng_get hk
      obtain ⟨p, hpk, ok⟩ := pget k hk9
      simp [B_law_2, aR k p hpk, aW k p hpk, wD, w0, w1]
      have := rd p ok
      simp [pD, partsD] at this ⊢
      simp [this]
    · rintro env ⟨s2, rfl⟩
      simp
      refine forL_ok (fun k env => ∃ s2, env = ⟨[.val .B (.scr (ns.map D.int)), .val .N (.lst (ps.map pD)), s2, .own (ps.map wD), s4, s5, s6], []⟩) ⟨_, rfl⟩ ?_ ?_
      · rintro k r env hk ⟨s2, rfl⟩
        obtain ⟨hk9, rfl⟩ := iRng_get hk
        obtain ⟨p, hpk, ok⟩ := pget (8 - k) (by omega)
        have e : (8 : Int) - (k : Int) = ((8 - k : Nat) : Int) := by omega
        simp [B_law_3, e, aR _ p hpk, aW _ p hpk, wD, w0, w1]
        have := rd p ok
        simp [pD, partsD] at this ⊢
        simp [this]
      · rintro env ⟨s2, rfl⟩
        simp)
end Lw
namespace Lw
open PySem PyProof.Rows L2 Vf
def topS (i : Nat) : Stmt := PySem.Challenge.pw_quietbroom_k48_headers.main.body.getD i (.Pass ⟨0, 0, 0, 0⟩)
structure Tx (K : PySem.W.Frag) (mg : Str → Option Value) (cl : Str → Option Addr) : Prop where
  nil : True
  n_bool : mg "bool" = none
  n_int : mg "int" = none
  n_isinstance : mg "isinstance" = none
  n_len : mg "len" = none
  n_range : mg "range" = none
  g_BLACK : Gc K mg cl "BLACK" G_BLACK
  g_COLOUR_SPAN : Gc K mg cl "COLOUR_SPAN" G_COLOUR_SPAN
  g_FORWARD_UNIT : Gc K mg cl "FORWARD_UNIT" G_FORWARD_UNIT
  g_GRAY : Gc K mg cl "GRAY" G_GRAY
  g_SHAPE_SPAN : Gc K mg cl "SHAPE_SPAN" G_SHAPE_SPAN
  g_WHITE : Gc K mg cl "WHITE" G_WHITE
section
variable {P : Program} {w : World} {K : PySem.W.Frag} {mg : Str → Option Value} {base : Heap} {cl : Str → Option Addr}
abbrev s_law_whole : Stmt := topS 15
theorem sc_law_whole : FnScope N_law_whole ["value"] (defScope s_law_whole) := ⟨rfl, rfl, rfl, by decide +kernel, rfl, by decide +kernel, by decide +kernel⟩
theorem ca_law_whole (T : Tx K mg cl) {f : Addr} {fd : FuncData} (D : Df K mg "_law_whole" s_law_whole f fd) : Ca P w K mg base cl 1 "_law_whole" ["value"] g_law_whole :=
  ca_def D sc_law_whole len_law_whole okt_law_whole (D.fn.binds (fun _ _ _ _ _ _ us hl => match us, hl with | [_], _ => rfl)) (kb_of D.fn (fun _ _ _ _ _ _ us hl => match us, hl with | [_], _ => rfl)) (fun cdv A outer s H E hr hX =>
  (js_one (js_ret (je_and (je_isi (T := "int") (je_var 0) T.n_isinstance T.n_int (by decide +kernel)) (je_and1 (je_not (je_isi (T := "bool") (je_var 0) T.n_isinstance T.n_bool (by decide +kernel)))))))) sem_law_whole
abbrev s_law_is : Stmt := topS 18
theorem sc_law_is : FnScope N_law_is ["told", "due"] (defScope s_law_is) := ⟨rfl, rfl, rfl, by decide +kernel, rfl, by decide +kernel, by decide +kernel⟩
theorem ca_law_is (T : Tx K mg cl) (C_law_whole : Ca P w K mg base cl 1 "_law_whole" ["value"] g_law_whole) {f : Addr} {fd : FuncData} (D : Df K mg "_law_is" s_law_is f fd) : Ca P w K mg base cl 2 "_law_is" ["told", "due"] g_law_is :=
  ca_def D sc_law_is len_law_is okt_law_is (D.fn.binds (fun _ _ _ _ _ _ us hl => match us, hl with | [_, _], _ => rfl)) (kb_of D.fn (fun _ _ _ _ _ _ us hl => match us, hl with | [_, _], _ => rfl)) (fun cdv A outer s H E hr hX =>
  (js_one (js_ret (je_and (jc C_law_whole hr (ja_cons (je_var 0) ja_nil)) (je_and1 (je_cmp (or_eq hX) (je_var 0) (je_var 1))))))) sem_law_is
abbrev s_law_digits : Stmt := topS 17
theorem sc_law_digits : FnScope N_law_digits ["cell", "sizes"] (defScope s_law_digits) := ⟨rfl, rfl, rfl, by decide +kernel, rfl, by decide +kernel, by decide +kernel⟩
theorem ca_law_digits (T : Tx K mg cl) {f : Addr} {fd : FuncData} (D : Df K mg "_law_digits" s_law_digits f fd) : Ca P w K mg base cl 1 "_law_digits" ["cell", "sizes"] g_law_digits :=
  ca_def D sc_law_digits len_law_digits okt_law_digits (D.fn.binds (fun _ _ _ _ _ _ us hl => match us, hl with | [_, _], _ => rfl)) (kb_of D.fn (fun _ _ _ _ _ _ us hl => match us, hl with | [_, _], _ => rfl)) (fun cdv A outer s H E hr hX =>
  (js_cons (js_own 2 hX (jl_d ja_nil)) (js_cons (js_set 3 hX (je_ty cr_int T.n_int (by decide +kernel) (ja_cons (je_var 0) ja_nil))) (js_cons (js_if (jt_cmp or_ge (je_var 3) (je_op or_pow je_int je_int))
  (js_cons (js_set 3 hX (je_op or_sub (je_var 3) (je_op or_pow je_int je_int))) (js_cons (js_for PassesOwn.never hX (ji_it (je_var 1)) (jg_name 4 hX)
  (js_cons (js_app 2 (je_op or_mod (je_ty cr_int T.n_int (by decide +kernel) (ja_cons (je_var 3) ja_nil)) (je_var 4))) (js_one (js_set 3 hX (je_op or_fd (je_ty cr_int T.n_int (by decide +kernel) (ja_cons (je_var 3) ja_nil)) (je_var 4)))))) (js_one (js_ret (je_var 2)))))
  js_nil) (js_cons (js_set 5 hX (je_op or_mod (je_ty cr_int T.n_int (by decide +kernel) (ja_cons (je_var 3) ja_nil)) je_int)) (js_cons (js_for PassesOwn.never hX (ji_range1 gwf_s T.n_range (ja_cons (je_b cr_len T.n_len PySem.boot_len (ja_cons (je_var 1) ja_nil)) ja_nil)) (jg_name 6 hX)
  (js_cons (js_set 5 hX (je_op or_mod (je_ty cr_int T.n_int (by decide +kernel) (ja_cons (je_op or_add (je_op or_add (je_op or_mul (je_var 5) je_int) (je_op or_mul je_int (je_var 6))) je_int) ja_nil)) je_int)) (js_cons (js_set 7 hX (je_op or_mod (je_ty cr_int T.n_int (by decide +kernel) (ja_cons (je_op or_mul (je_var 5) (je_op or_add (je_op or_fd (je_var 5) je_int) je_int)) ja_nil)) je_int)) (js_one (js_app 2 (je_op or_mod (je_op or_fd (je_var 7) je_int) (je_ix (je_var 1) (je_var 6)))))))) (js_one (js_ret (je_var 2))))))))) sem_law_digits
abbrev s_law_cell : Stmt := topS 16
theorem sc_law_cell : FnScope N_law_cell ["script", "k"] (defScope s_law_cell) := ⟨rfl, rfl, rfl, by decide +kernel, rfl, by decide +kernel, by decide +kernel⟩
theorem ca_law_cell (T : Tx K mg cl) {f : Addr} {fd : FuncData} (D : Df K mg "_law_cell" s_law_cell f fd) : Ca P w K mg base cl 1 "_law_cell" ["script", "k"] g_law_cell :=
  ca_def D sc_law_cell len_law_cell okt_law_cell (D.fn.binds (fun _ _ _ _ _ _ us hl => match us, hl with | [_, _], _ => rfl)) (kb_of D.fn (fun _ _ _ _ _ _ us hl => match us, hl with | [_, _], _ => rfl)) (fun cdv A outer s H E hr hX =>
  (js_cons (js_if (jt_cmp or_lt (je_var 1) (je_b cr_len T.n_len PySem.boot_len (ja_cons (je_var 0) ja_nil)))
  (js_one (js_ret (je_ix (je_var 0) (je_var 1))))
  js_nil) (js_cons (js_set 2 hX je_int) (js_cons (js_for PassesOwn.never hX (ji_it (je_var 0)) (jg_name 3 hX)
  (js_one (js_set 2 hX (je_op or_mod (je_ty cr_int T.n_int (by decide +kernel) (ja_cons (je_op or_add (je_op or_mul (je_var 2) je_int) (je_op or_mod (je_ty cr_int T.n_int (by decide +kernel) (ja_cons (je_var 3) ja_nil)) je_int)) ja_nil)) je_int)))) (js_one (js_ret (je_op or_mod (je_ty cr_int T.n_int (by decide +kernel) (ja_cons (je_op or_mul (je_op or_mul (je_op or_add (je_var 2) je_int) (je_op or_add (je_var 1) je_int)) je_int) ja_nil)) je_int))))))) sem_law_cell
abbrev s_law_parts : Stmt := topS 19
theorem sc_law_parts : FnScope N_law_parts ["script", "k"] (defScope s_law_parts) := ⟨rfl, rfl, rfl, by decide +kernel, rfl, by decide +kernel, by decide +kernel⟩
theorem ca_law_parts (T : Tx K mg cl) (C_law_digits : Ca P w K mg base cl 1 "_law_digits" ["cell", "sizes"] g_law_digits) (C_law_cell : Ca P w K mg base cl 1 "_law_cell" ["script", "k"] g_law_cell) {f : Addr} {fd : FuncData} (D : Df K mg "_law_parts" s_law_parts f fd) : Ca P w K mg base cl 2 "_law_parts" ["script", "k"] g_law_parts :=
  ca_def D sc_law_parts len_law_parts okt_law_parts (D.fn.binds (fun _ _ _ _ _ _ us hl => match us, hl with | [_, _], _ => rfl)) (kb_of D.fn (fun _ _ _ _ _ _ us hl => match us, hl with | [_, _], _ => rfl)) (fun cdv A outer s H E hr hX =>
  (js_cons (js_set 2 hX (jc C_law_digits hr (ja_cons (jc C_law_cell hr (ja_cons (je_var 0) (ja_cons (je_var 1) ja_nil))) (ja_cons (je_l (jl_d (ja_cons je_int (ja_cons je_int (ja_cons je_int (ja_cons je_int (ja_cons je_int (ja_cons je_int (ja_cons je_int (ja_cons je_int (ja_cons je_int (ja_cons je_int (ja_cons je_int ja_nil))))))))))))) ja_nil)))) (js_cons (js_own 3 hX (jl_d (ja_cons (je_ix (je_var 2) je_int) (ja_cons (je_ix (je_var 2) je_int) (ja_cons (je_ix (je_var 2) je_int) (ja_cons (je_ix (je_var 2) je_int) (ja_cons (je_ix (je_var 2) je_int) ja_nil))))))) (js_cons (js_if (jt_cmp (or_eq hX) (je_ix (je_var 2) je_int) je_int)
  (js_one (js_put 3 (je_ix (je_l (jl_d (ja_cons je_int (ja_cons je_int (ja_cons je_int (ja_cons je_int (ja_cons je_int (ja_cons je_int (ja_cons je_int (ja_cons je_int ja_nil)))))))))) (je_ix (je_var 2) je_int)) je_int))
  js_nil) (js_cons (js_if (jt_cmp (or_eq hX) (je_ix (je_var 2) je_int) je_int)
  (js_one (js_put 3 (je_ix (je_l (jl_d (ja_cons je_int (ja_cons je_int (ja_cons je_int (ja_cons je_int (ja_cons je_int (ja_cons je_int (ja_cons je_int (ja_cons je_int (ja_cons je_int (ja_cons je_int ja_nil)))))))))))) (je_ix (je_var 2) je_int)) je_int))
  js_nil) (js_cons (js_if (jt_cmp (or_eq hX) (je_ix (je_var 2) je_int) je_int)
  (js_one (js_put 3 (je_ix (je_l (jl_d (ja_cons je_int (ja_cons je_int (ja_cons je_int (ja_cons je_int (ja_cons je_int (ja_cons je_int (ja_cons je_int (ja_cons je_int (ja_cons je_int (ja_cons je_int (ja_cons je_int (ja_cons je_int ja_nil)))))))))))))) (je_ix (je_var 2) je_int)) je_int))
  js_nil) (js_one (js_ret (je_var 3))))))))) sem_law_parts
abbrev s_form_word : Stmt := topS 7
theorem sc_form_word : FnScope N_form_word ["shape_number", "length"] (defScope s_form_word) := ⟨rfl, rfl, rfl, by decide +kernel, rfl, by decide +kernel, by decide +kernel⟩
theorem ca_form_word (T : Tx K mg cl) {f : Addr} {fd : FuncData} (D : Df K mg "form_word" s_form_word f fd) : Ca P w K mg base cl 1 "form_word" ["shape_number", "length"] g_form_word :=
  ca_def D sc_form_word len_form_word okt_form_word (D.fn.binds (fun _ _ _ _ _ _ us hl => match us, hl with | [_, _], _ => rfl)) (kb_of D.fn (fun _ _ _ _ _ _ us hl => match us, hl with | [_, _], _ => rfl)) (fun cdv A outer s H E hr hX =>
  (js_one (js_ret (je_op or_add (je_op or_mul (je_gl T.g_SHAPE_SPAN) (je_var 1)) (je_var 0))))) sem_form_word
abbrev s_state_word : Stmt := topS 8
theorem sc_state_word : FnScope N_state_word ["colour", "remembered", "forward"] (defScope s_state_word) := ⟨rfl, rfl, rfl, by decide +kernel, rfl, by decide +kernel, by decide +kernel⟩
theorem ca_state_word (T : Tx K mg cl) {f : Addr} {fd : FuncData} (D : Df K mg "state_word" s_state_word f fd) : Ca P w K mg base cl 1 "state_word" ["colour", "remembered", "forward"] g_state_word :=
  ca_def D sc_state_word len_state_word okt_state_word (D.fn.binds (fun _ _ _ _ _ _ us hl => match us, hl with | [_, _, _], _ => rfl)) (kb_of D.fn (fun _ _ _ _ _ _ us hl => match us, hl with | [_, _, _], _ => rfl)) (fun cdv A outer s H E hr hX =>
  (js_one (js_ret (je_op or_add (je_op or_add (je_op or_mul (je_gl T.g_FORWARD_UNIT) (je_var 2)) (je_op or_mul (je_gl T.g_COLOUR_SPAN) (je_var 1))) (je_var 0))))) sem_state_word
abbrev s_shape_number_of : Stmt := topS 9
theorem sc_shape_number_of : FnScope N_shape_number_of ["word"] (defScope s_shape_number_of) := ⟨rfl, rfl, rfl, by decide +kernel, rfl, by decide +kernel, by decide +kernel⟩
theorem ca_shape_number_of (T : Tx K mg cl) {f : Addr} {fd : FuncData} (D : Df K mg "shape_number_of" s_shape_number_of f fd) : Ca P w K mg base cl 1 "shape_number_of" ["word"] g_shape_number_of :=
  ca_def D sc_shape_number_of len_shape_number_of okt_shape_number_of (D.fn.binds (fun _ _ _ _ _ _ us hl => match us, hl with | [_], _ => rfl)) (kb_of D.fn (fun _ _ _ _ _ _ us hl => match us, hl with | [_], _ => rfl)) (fun cdv A outer s H E hr hX =>
  (js_one (js_ret (je_op or_mod (je_var 0) (je_gl T.g_SHAPE_SPAN))))) sem_shape_number_of
abbrev s_length_of : Stmt := topS 10
theorem sc_length_of : FnScope N_length_of ["word"] (defScope s_length_of) := ⟨rfl, rfl, rfl, by decide +kernel, rfl, by decide +kernel, by decide +kernel⟩
theorem ca_length_of (T : Tx K mg cl) {f : Addr} {fd : FuncData} (D : Df K mg "length_of" s_length_of f fd) : Ca P w K mg base cl 1 "length_of" ["word"] g_length_of :=
  ca_def D sc_length_of len_length_of okt_length_of (D.fn.binds (fun _ _ _ _ _ _ us hl => match us, hl with | [_], _ => rfl)) (kb_of D.fn (fun _ _ _ _ _ _ us hl => match us, hl with | [_], _ => rfl)) (fun cdv A outer s H E hr hX =>
  (js_one (js_ret (je_op or_fd (je_var 0) (je_gl T.g_SHAPE_SPAN))))) sem_length_of
abbrev s_colour_of : Stmt := topS 11
theorem sc_colour_of : FnScope N_colour_of ["word"] (defScope s_colour_of) := ⟨rfl, rfl, rfl, by decide +kernel, rfl, by decide +kernel, by decide +kernel⟩
theorem ca_colour_of (T : Tx K mg cl) {f : Addr} {fd : FuncData} (D : Df K mg "colour_of" s_colour_of f fd) : Ca P w K mg base cl 1 "colour_of" ["word"] g_colour_of :=
  ca_def D sc_colour_of len_colour_of okt_colour_of (D.fn.binds (fun _ _ _ _ _ _ us hl => match us, hl with | [_], _ => rfl)) (kb_of D.fn (fun _ _ _ _ _ _ us hl => match us, hl with | [_], _ => rfl)) (fun cdv A outer s H E hr hX =>
  (js_one (js_ret (je_op or_mod (je_var 0) (je_gl T.g_COLOUR_SPAN))))) sem_colour_of
abbrev s_remembered_of : Stmt := topS 12
theorem sc_remembered_of : FnScope N_remembered_of ["word"] (defScope s_remembered_of) := ⟨rfl, rfl, rfl, by decide +kernel, rfl, by decide +kernel, by decide +kernel⟩
theorem ca_remembered_of (T : Tx K mg cl) {f : Addr} {fd : FuncData} (D : Df K mg "remembered_of" s_remembered_of f fd) : Ca P w K mg base cl 1 "remembered_of" ["word"] g_remembered_of :=
  ca_def D sc_remembered_of len_remembered_of okt_remembered_of (D.fn.binds (fun _ _ _ _ _ _ us hl => match us, hl with | [_], _ => rfl)) (kb_of D.fn (fun _ _ _ _ _ _ us hl => match us, hl with | [_], _ => rfl)) (fun cdv A outer s H E hr hX =>
  (js_one (js_ret (je_op or_fd (je_op or_mod (je_var 0) (je_gl T.g_FORWARD_UNIT)) (je_gl T.g_COLOUR_SPAN))))) sem_remembered_of
abbrev s_forward_of : Stmt := topS 13
theorem sc_forward_of : FnScope N_forward_of ["word"] (defScope s_forward_of) := ⟨rfl, rfl, rfl, by decide +kernel, rfl, by decide +kernel, by decide +kernel⟩
theorem ca_forward_of (T : Tx K mg cl) {f : Addr} {fd : FuncData} (D : Df K mg "forward_of" s_forward_of f fd) : Ca P w K mg base cl 1 "forward_of" ["word"] g_forward_of :=
  ca_def D sc_forward_of len_forward_of okt_forward_of (D.fn.binds (fun _ _ _ _ _ _ us hl => match us, hl with | [_], _ => rfl)) (kb_of D.fn (fun _ _ _ _ _ _ us hl => match us, hl with | [_], _ => rfl)) (fun cdv A outer s H E hr hX =>
  (js_one (js_ret (je_op or_fd (je_var 0) (je_gl T.g_FORWARD_UNIT))))) sem_forward_of
abbrev s_law_read : Stmt := topS 20
theorem sc_law_read : FnScope N_law_read ["parts", "form", "state"] (defScope s_law_read) := ⟨rfl, rfl, rfl, by decide +kernel, rfl, by decide +kernel, by decide +kernel⟩
theorem ca_law_read (T : Tx K mg cl) (C_law_is : Ca P w K mg base cl 2 "_law_is" ["told", "due"] g_law_is) (C_shape_number_of : Ca P w K mg base cl 1 "shape_number_of" ["word"] g_shape_number_of) (C_length_of : Ca P w K mg base cl 1 "length_of" ["word"] g_length_of) (C_colour_of : Ca P w K mg base cl 1 "colour_of" ["word"] g_colour_of) (C_remembered_of : Ca P w K mg base cl 1 "remembered_of" ["word"] g_remembered_of) (C_forward_of : Ca P w K mg base cl 1 "forward_of" ["word"] g_forward_of) {f : Addr} {fd : FuncData} (D : Df K mg "_law_read" s_law_read f fd) : Ca P w K mg base cl 3 "_law_read" ["parts", "form", "state"] g_law_read :=
  ca_def D sc_law_read len_law_read okt_law_read (D.fn.binds (fun _ _ _ _ _ _ us hl => match us, hl with | [_, _, _], _ => rfl)) (kb_of D.fn (fun _ _ _ _ _ _ us hl => match us, hl with | [_, _, _], _ => rfl)) (fun cdv A outer s H E hr hX =>
  (js_cons (js_if (jt_w (jw_or (jt_not (jt_v (jc C_law_is hr (ja_cons (jc C_shape_number_of hr (ja_cons (je_var 1) ja_nil)) (ja_cons (je_ix (je_var 0) je_int) ja_nil))))) (jw_or1 (jt_not (jt_v (jc C_law_is hr (ja_cons (jc C_length_of hr (ja_cons (je_var 1) ja_nil)) (ja_cons (je_ix (je_var 0) je_int) ja_nil))))))))
  (js_one (js_ret je_bl))
  js_nil) (js_cons (js_if (jt_w (jw_or (jt_not (jt_v (jc C_law_is hr (ja_cons (jc C_colour_of hr (ja_cons (je_var 2) ja_nil)) (ja_cons (je_ix (je_var 0) je_int) ja_nil))))) (jw_or1 (jt_not (jt_v (jc C_law_is hr (ja_cons (jc C_remembered_of hr (ja_cons (je_var 2) ja_nil)) (ja_cons (je_ix (je_var 0) je_int) ja_nil))))))))
  (js_one (js_ret je_bl))
  js_nil) (js_one (js_ret (jc C_law_is hr (ja_cons (jc C_forward_of hr (ja_cons (je_var 2) ja_nil)) (ja_cons (je_ix (je_var 0) je_int) ja_nil)))))))) sem_law_read
abbrev s_law : Stmt := topS 21
theorem sc_law : FnScope N_law ["script"] (defScope s_law) := ⟨rfl, rfl, rfl, by decide +kernel, rfl, by decide +kernel, by decide +kernel⟩
theorem ok_law (T : Tx K mg cl) (C_law_is : Ca P w K mg base cl 2 "_law_is" ["told", "due"] g_law_is) (C_law_parts : Ca P w K mg base cl 2 "_law_parts" ["script", "k"] g_law_parts) (C_form_word : Ca P w K mg base cl 1 "form_word" ["shape_number", "length"] g_form_word) (C_state_word : Ca P w K mg base cl 1 "state_word" ["colour", "remembered", "forward"] g_state_word) (C_law_read : Ca P w K mg base cl 3 "_law_read" ["parts", "form", "state"] g_law_read) {f : Addr} {fd : FuncData} (D : Df K mg "law" s_law f fd) : FnOk P w K mg base CX0 4 f fd ["script"] (spG ⟨K, cl⟩ gLaw) :=
  ok_def D.fn sc_law gLaw_len (fun cdv A outer s H E hr hX =>
  (js_cons (js_if (jt_w (jw_or (jt_not (jt_v (jc C_law_is hr (ja_cons (je_gl T.g_WHITE) (ja_cons je_int ja_nil))))) (jw_or (jt_not (jt_v (jc C_law_is hr (ja_cons (je_gl T.g_GRAY) (ja_cons je_int ja_nil))))) (jw_or1 (jt_not (jt_v (jc C_law_is hr (ja_cons (je_gl T.g_BLACK) (ja_cons je_int ja_nil)))))))))
  (js_one (js_ret je_bl))
  js_nil) (js_cons (js_setLc 1 [("k", 2)] hX (ji_range1 gwf_r T.n_range (ja_cons je_int ja_nil)) (by rfl) (fun _ _ _ _ _ => (jg_name 2 (XS.blk hX))) (fun _ _ _ _ _ => jts_nil) (fun _ _ _ _ _ => (jc C_law_parts hr (ja_cons (je_var 0) (ja_cons (je_var 2) ja_nil))))) (js_cons (js_own 3 hX (jl_d ja_nil)) (js_cons (js_for PassesOwn.never hX (ji_it (je_var 1)) (jg_name 4 hX)
  (js_cons (js_set 5 hX (jc C_form_word hr (ja_cons (je_ix (je_var 4) je_int) (ja_cons (je_ix (je_var 4) je_int) ja_nil)))) (js_cons (js_set 6 hX (jc C_state_word hr (ja_cons (je_ix (je_var 4) je_int) (ja_cons (je_ix (je_var 4) je_int) (ja_cons (je_ix (je_var 4) je_int) ja_nil))))) (js_cons (js_if (jt_w (jw_or (jt_not (jt_v (jc C_law_is hr (ja_cons (je_var 5) (ja_cons (je_op or_add (je_op or_mul je_int (je_ix (je_var 4) je_int)) (je_ix (je_var 4) je_int)) ja_nil))))) (jw_or1 (jt_not (jt_v (jc C_law_is hr (ja_cons (je_var 6) (ja_cons (je_op or_add (je_op or_add (je_op or_mul je_int (je_ix (je_var 4) je_int)) (je_op or_mul je_int (je_ix (je_var 4) je_int))) (je_ix (je_var 4) je_int)) ja_nil))))))))
  (js_one (js_ret je_bl))
  js_nil) (js_one (js_app 3 (je_l (jl_d (ja_cons (je_var 5) (ja_cons (je_var 6) ja_nil)))))))))) (js_cons (js_for PassesOwn.never hX (ji_range1 gwf_s T.n_range (ja_cons je_int ja_nil)) (jg_name 2 hX)
  (js_one (js_if (jt_not (jt_v (jc C_law_read hr (ja_cons (je_ix (je_var 1) (je_var 2)) (ja_cons (je_ix (je_ix (je_var 3) (je_var 2)) je_int) (ja_cons (je_ix (je_ix (je_var 3) (je_var 2)) je_int) ja_nil))))))
  (js_one (js_ret je_bl))
  js_nil))) (js_cons (js_for PassesOwn.never hX (ji_range1 gwf_s T.n_range (ja_cons je_int ja_nil)) (jg_name 2 hX)
  (js_one (js_if (jt_not (jt_v (jc C_law_read hr (ja_cons (je_ix (je_var 1) (je_op or_sub je_int (je_var 2))) (ja_cons (je_ix (je_ix (je_var 3) (je_op or_sub je_int (je_var 2))) je_int) (ja_cons (je_ix (je_ix (je_var 3) (je_op or_sub je_int (je_var 2))) je_int) ja_nil))))))
  (js_one (js_ret je_bl))
  js_nil))) (js_one (js_ret je_bl))))))))) sem_law
end
theorem all_mk {l : PySem.W.OpenLaw} {w : World} {K : PySem.W.Frag} {h : Heap} {mg : Str → Option Value} {fa : Addr} (X : K.In h) (G : h.Ns mainGlobals mg) (hfa : mg "law" = some (.ref fa))
    {f1 f2 f3 f4 f5 f6 f7 f8 f9 f10 f11 f12 f13 f14 : Addr} {od1 an1 od2 an2 od3 an3 od4 an4 od5 an5 od6 an6 od7 an7 od8 an8 od9 an9 od10 an10 od11 an11 od12 an12 od13 an13 od14 an14 : Option Addr} {sl1 sl2 sl3 sl4 sl5 sl6 sl7 sl8 sl9 sl10 sl11 sl12 sl13 sl14 : Array (Option Value)} {oc1 kV1 dc1 pm1 cd1 ct1 oc2 kV2 dc2 pm2 cd2 ct2 oc3 kV3 dc3 pm3 cd3 ct3 oc4 kV4 dc4 pm4 cd4 ct4 oc5 kV5 dc5 pm5 cd5 ct5 oc6 kV6 dc6 pm6 cd6 ct6 oc7 kV7 dc7 pm7 cd7 ct7 oc8 kV8 dc8 pm8 cd8 ct8 oc9 kV9 dc9 pm9 cd9 ct9 oc10 kV10 dc10 pm10 cd10 ct10 oc11 kV11 dc11 pm11 cd11 ct11 oc12 kV12 dc12 pm12 cd12 ct12 oc13 kV13 dc13 pm13 cd13 ct13 oc14 kV14 dc14 pm14 cd14 ct14 : Value}
    (a1 : PySem.W.nsIn K mainGlobals "_law_whole" = some (some (.ref f1))) (l1 : K.lookup f1 = some ⟨oc1, od1, .func (PySem.W.fnOf "_law_whole" "_law_whole" (defArgs s_law_whole) (defBody s_law_whole) (defScope s_law_whole) .none kV1 dc1 pm1 an1 cd1 ct1), sl1⟩) (c1 : PySem.W.codeIn K cd1 "_law_whole" = true) (k1 : PySem.W.keepIn K (.ref f1) = true)
    (a2 : PySem.W.nsIn K mainGlobals "_law_is" = some (some (.ref f2))) (l2 : K.lookup f2 = some ⟨oc2, od2, .func (PySem.W.fnOf "_law_is" "_law_is" (defArgs s_law_is) (defBody s_law_is) (defScope s_law_is) .none kV2 dc2 pm2 an2 cd2 ct2), sl2⟩) (c2 : PySem.W.codeIn K cd2 "_law_is" = true) (k2 : PySem.W.keepIn K (.ref f2) = true)
    (a3 : PySem.W.nsIn K mainGlobals "_law_digits" = some (some (.ref f3))) (l3 : K.lookup f3 = some ⟨oc3, od3, .func (PySem.W.fnOf "_law_digits" "_law_digits" (defArgs s_law_digits) (defBody s_law_digits) (defScope s_law_digits) .none kV3 dc3 pm3 an3 cd3 ct3), sl3⟩) (c3 : PySem.W.codeIn K cd3 "_law_digits" = true) (k3 : PySem.W.keepIn K (.ref f3) = true)
    (a4 : PySem.W.nsIn K mainGlobals "_law_cell" = some (some (.ref f4))) (l4 : K.lookup f4 = some ⟨oc4, od4, .func (PySem.W.fnOf "_law_cell" "_law_cell" (defArgs s_law_cell) (defBody s_law_cell) (defScope s_law_cell) .none kV4 dc4 pm4 an4 cd4 ct4), sl4⟩) (c4 : PySem.W.codeIn K cd4 "_law_cell" = true) (k4 : PySem.W.keepIn K (.ref f4) = true)
    (a5 : PySem.W.nsIn K mainGlobals "_law_parts" = some (some (.ref f5))) (l5 : K.lookup f5 = some ⟨oc5, od5, .func (PySem.W.fnOf "_law_parts" "_law_parts" (defArgs s_law_parts) (defBody s_law_parts) (defScope s_law_parts) .none kV5 dc5 pm5 an5 cd5 ct5), sl5⟩) (c5 : PySem.W.codeIn K cd5 "_law_parts" = true) (k5 : PySem.W.keepIn K (.ref f5) = true)
    (a6 : PySem.W.nsIn K mainGlobals "form_word" = some (some (.ref f6))) (l6 : K.lookup f6 = some ⟨oc6, od6, .func (PySem.W.fnOf "form_word" "form_word" (defArgs s_form_word) (defBody s_form_word) (defScope s_form_word) .none kV6 dc6 pm6 an6 cd6 ct6), sl6⟩) (c6 : PySem.W.codeIn K cd6 "form_word" = true) (k6 : PySem.W.keepIn K (.ref f6) = true)
    (a7 : PySem.W.nsIn K mainGlobals "state_word" = some (some (.ref f7))) (l7 : K.lookup f7 = some ⟨oc7, od7, .func (PySem.W.fnOf "state_word" "state_word" (defArgs s_state_word) (defBody s_state_word) (defScope s_state_word) .none kV7 dc7 pm7 an7 cd7 ct7), sl7⟩) (c7 : PySem.W.codeIn K cd7 "state_word" = true) (k7 : PySem.W.keepIn K (.ref f7) = true)
    (a8 : PySem.W.nsIn K mainGlobals "shape_number_of" = some (some (.ref f8))) (l8 : K.lookup f8 = some ⟨oc8, od8, .func (PySem.W.fnOf "shape_number_of" "shape_number_of" (defArgs s_shape_number_of) (defBody s_shape_number_of) (defScope s_shape_number_of) .none kV8 dc8 pm8 an8 cd8 ct8), sl8⟩) (c8 : PySem.W.codeIn K cd8 "shape_number_of" = true) (k8 : PySem.W.keepIn K (.ref f8) = true)
    (a9 : PySem.W.nsIn K mainGlobals "length_of" = some (some (.ref f9))) (l9 : K.lookup f9 = some ⟨oc9, od9, .func (PySem.W.fnOf "length_of" "length_of" (defArgs s_length_of) (defBody s_length_of) (defScope s_length_of) .none kV9 dc9 pm9 an9 cd9 ct9), sl9⟩) (c9 : PySem.W.codeIn K cd9 "length_of" = true) (k9 : PySem.W.keepIn K (.ref f9) = true)
    (a10 : PySem.W.nsIn K mainGlobals "colour_of" = some (some (.ref f10))) (l10 : K.lookup f10 = some ⟨oc10, od10, .func (PySem.W.fnOf "colour_of" "colour_of" (defArgs s_colour_of) (defBody s_colour_of) (defScope s_colour_of) .none kV10 dc10 pm10 an10 cd10 ct10), sl10⟩) (c10 : PySem.W.codeIn K cd10 "colour_of" = true) (k10 : PySem.W.keepIn K (.ref f10) = true)
    (a11 : PySem.W.nsIn K mainGlobals "remembered_of" = some (some (.ref f11))) (l11 : K.lookup f11 = some ⟨oc11, od11, .func (PySem.W.fnOf "remembered_of" "remembered_of" (defArgs s_remembered_of) (defBody s_remembered_of) (defScope s_remembered_of) .none kV11 dc11 pm11 an11 cd11 ct11), sl11⟩) (c11 : PySem.W.codeIn K cd11 "remembered_of" = true) (k11 : PySem.W.keepIn K (.ref f11) = true)
    (a12 : PySem.W.nsIn K mainGlobals "forward_of" = some (some (.ref f12))) (l12 : K.lookup f12 = some ⟨oc12, od12, .func (PySem.W.fnOf "forward_of" "forward_of" (defArgs s_forward_of) (defBody s_forward_of) (defScope s_forward_of) .none kV12 dc12 pm12 an12 cd12 ct12), sl12⟩) (c12 : PySem.W.codeIn K cd12 "forward_of" = true) (k12 : PySem.W.keepIn K (.ref f12) = true)
    (a13 : PySem.W.nsIn K mainGlobals "_law_read" = some (some (.ref f13))) (l13 : K.lookup f13 = some ⟨oc13, od13, .func (PySem.W.fnOf "_law_read" "_law_read" (defArgs s_law_read) (defBody s_law_read) (defScope s_law_read) .none kV13 dc13 pm13 an13 cd13 ct13), sl13⟩) (c13 : PySem.W.codeIn K cd13 "_law_read" = true) (k13 : PySem.W.keepIn K (.ref f13) = true)
    (a14 : PySem.W.nsIn K mainGlobals "law" = some (some (.ref f14))) (l14 : K.lookup f14 = some ⟨oc14, od14, .func (PySem.W.fnOf "law" "law" (defArgs s_law) (defBody s_law) (defScope s_law) .none kV14 dc14 pm14 an14 cd14 ct14), sl14⟩) (c14 : PySem.W.codeIn K cd14 "law" = true) (k14 : PySem.W.keepIn K (.ref f14) = true)
    (z0 : PySem.W.nsIn K mainGlobals "bool" = some none)
    (z1 : PySem.W.nsIn K mainGlobals "int" = some none)
    (z2 : PySem.W.nsIn K mainGlobals "isinstance" = some none)
    (z3 : PySem.W.nsIn K mainGlobals "len" = some none)
    (z4 : PySem.W.nsIn K mainGlobals "range" = some none)
    {gt0 : Tok} (y0 : PySem.W.nsIn K mainGlobals "BLACK" = some (some (.int (2) gt0)))
    {gt1 : Tok} (y1 : PySem.W.nsIn K mainGlobals "COLOUR_SPAN" = some (some (.int (4) gt1)))
    {gt2 : Tok} (y2 : PySem.W.nsIn K mainGlobals "FORWARD_UNIT" = some (some (.int (8) gt2)))
    {gt3 : Tok} (y3 : PySem.W.nsIn K mainGlobals "GRAY" = some (some (.int (1) gt3)))
    {gt4 : Tok} (y4 : PySem.W.nsIn K mainGlobals "SHAPE_SPAN" = some (some (.int (64) gt4)))
    {gt5 : Tok} (y5 : PySem.W.nsIn K mainGlobals "WHITE" = some (some (.int (0) gt5)))
    : ∃ fd : FuncData, (∀ (s : Shared) (v : Value), BindsTo s fd ⟨[v], []⟩ [("script", v)]) ∧ ∀ base : Heap, K.In base → base.Ns mainGlobals mg → FnOk l.prog w K mg base CX0 4 fa fd ["script"] (spG ⟨K, fun _ => none⟩ gLaw) := by
  have e := hfa.symm.trans (PySem.W.mg_of X G a14)
  cases e
  have T : Tx K mg (fun _ => none) := ⟨trivial, PySem.W.mg_none_of X G z0, PySem.W.mg_none_of X G z1, PySem.W.mg_none_of X G z2, PySem.W.mg_none_of X G z3, PySem.W.mg_none_of X G z4, ⟨⟨_, .int (2), PySem.W.mg_of X G y0, ⟨_, rfl⟩, .int _⟩⟩, ⟨⟨_, .int (4), PySem.W.mg_of X G y1, ⟨_, rfl⟩, .int _⟩⟩, ⟨⟨_, .int (8), PySem.W.mg_of X G y2, ⟨_, rfl⟩, .int _⟩⟩, ⟨⟨_, .int (1), PySem.W.mg_of X G y3, ⟨_, rfl⟩, .int _⟩⟩, ⟨⟨_, .int (64), PySem.W.mg_of X G y4, ⟨_, rfl⟩, .int _⟩⟩, ⟨⟨_, .int (0), PySem.W.mg_of X G y5, ⟨_, rfl⟩, .int _⟩⟩⟩
  have D1 : Df K mg "_law_whole" s_law_whole _ _ := ⟨fun_mk (st := s_law_whole) l1 c1 k1, PySem.W.mg_of X G a1⟩
  have D2 : Df K mg "_law_is" s_law_is _ _ := ⟨fun_mk (st := s_law_is) l2 c2 k2, PySem.W.mg_of X G a2⟩
  have D3 : Df K mg "_law_digits" s_law_digits _ _ := ⟨fun_mk (st := s_law_digits) l3 c3 k3, PySem.W.mg_of X G a3⟩
  have D4 : Df K mg "_law_cell" s_law_cell _ _ := ⟨fun_mk (st := s_law_cell) l4 c4 k4, PySem.W.mg_of X G a4⟩
  have D5 : Df K mg "_law_parts" s_law_parts _ _ := ⟨fun_mk (st := s_law_parts) l5 c5 k5, PySem.W.mg_of X G a5⟩
  have D6 : Df K mg "form_word" s_form_word _ _ := ⟨fun_mk (st := s_form_word) l6 c6 k6, PySem.W.mg_of X G a6⟩
  have D7 : Df K mg "state_word" s_state_word _ _ := ⟨fun_mk (st := s_state_word) l7 c7 k7, PySem.W.mg_of X G a7⟩
  have D8 : Df K mg "shape_number_of" s_shape_number_of _ _ := ⟨fun_mk (st := s_shape_number_of) l8 c8 k8, PySem.W.mg_of X G a8⟩
  have D9 : Df K mg "length_of" s_length_of _ _ := ⟨fun_mk (st := s_length_of) l9 c9 k9, PySem.W.mg_of X G a9⟩
  have D10 : Df K mg "colour_of" s_colour_of _ _ := ⟨fun_mk (st := s_colour_of) l10 c10 k10, PySem.W.mg_of X G a10⟩
  have D11 : Df K mg "remembered_of" s_remembered_of _ _ := ⟨fun_mk (st := s_remembered_of) l11 c11 k11, PySem.W.mg_of X G a11⟩
  have D12 : Df K mg "forward_of" s_forward_of _ _ := ⟨fun_mk (st := s_forward_of) l12 c12 k12, PySem.W.mg_of X G a12⟩
  have D13 : Df K mg "_law_read" s_law_read _ _ := ⟨fun_mk (st := s_law_read) l13 c13 k13, PySem.W.mg_of X G a13⟩
  have D14 : Df K mg "law" s_law _ _ := ⟨fun_mk (st := s_law) l14 c14 k14, PySem.W.mg_of X G a14⟩
  refine ⟨PySem.W.fnOf "law" "law" (defArgs s_law) (defBody s_law) (defScope s_law) .none kV14 dc14 pm14 an14 cd14 ct14, fun s v => .of_eq rfl, fun base _ _ => ?_⟩
  have C1 := ca_law_whole (P := l.prog) (w := w) (base := base) T D1
  have C2 := ca_law_is (P := l.prog) (w := w) (base := base) T C1 D2
  have C3 := ca_law_digits (P := l.prog) (w := w) (base := base) T D3
  have C4 := ca_law_cell (P := l.prog) (w := w) (base := base) T D4
  have C5 := ca_law_parts (P := l.prog) (w := w) (base := base) T C3 C4 D5
  have C6 := ca_form_word (P := l.prog) (w := w) (base := base) T D6
  have C7 := ca_state_word (P := l.prog) (w := w) (base := base) T D7
  have C8 := ca_shape_number_of (P := l.prog) (w := w) (base := base) T D8
  have C9 := ca_length_of (P := l.prog) (w := w) (base := base) T D9
  have C10 := ca_colour_of (P := l.prog) (w := w) (base := base) T D10
  have C11 := ca_remembered_of (P := l.prog) (w := w) (base := base) T D11
  have C12 := ca_forward_of (P := l.prog) (w := w) (base := base) T D12
  have C13 := ca_law_read (P := l.prog) (w := w) (base := base) T C2 C8 C9 C10 C11 C12 D13
  exact ok_law (P := l.prog) (w := w) (base := base) T C2 C5 C6 C7 C13 D14
end Lw
open PySem PySem.W PyProof.Rows
set_option maxHeartbeats 0 in
theorem PySem.Challenge.cw_quietbroom_k48_headers_holds : PySem.Challenge.rw_quietbroom_k48_headers.Holds := by
  w_on; o_law; k_head; (case hw => w_witness2)
  k_fill
  refine L2.walk_ofB (l := PySem.Challenge.rw_quietbroom_k48_headers) (n := 63) (k := 4) (x := "script") (CX := fun _ => L2.CX0) (sp := fun w => Vf.spG ⟨_, fun _ => none⟩ Vf.gLaw) rfl (by decide) rfl ⟨rfl, by decide, by decide⟩ (fun w h Y => PySem.W.kIn_of Y) ?F (fun _ _ a ns hl hb _ hS => Vf.spLaw_start ⟨hl, hb⟩ hS) (fun _ _ _ _ _ z => z)
  case F =>
    intro w mg fa h KX G hmg
    refine' Lw.all_mk KX G hmg ?a1 ?l1 ?c1 ?k1 ?a2 ?l2 ?c2 ?k2 ?a3 ?l3 ?c3 ?k3 ?a4 ?l4 ?c4 ?k4 ?a5 ?l5 ?c5 ?k5 ?a6 ?l6 ?c6 ?k6 ?a7 ?l7 ?c7 ?k7 ?a8 ?l8 ?c8 ?k8 ?a9 ?l9 ?c9 ?k9 ?a10 ?l10 ?c10 ?k10 ?a11 ?l11 ?c11 ?k11 ?a12 ?l12 ?c12 ?k12 ?a13 ?l13 ?c13 ?k13 ?a14 ?l14 ?c14 ?k14 ?z0 ?z1 ?z2 ?z3 ?z4 ?y0 ?y1 ?y2 ?y3 ?y4 ?y5
    (case a1 => k_is)
    (case l1 => k_is)
    (case c1 => k_is)
    (case k1 => k_is)
    (case a2 => k_is)
    (case l2 => k_is)
    (case c2 => k_is)
    (case k2 => k_is)
    (case a3 => k_is)
    (case l3 => k_is)
    (case c3 => k_is)
    (case k3 => k_is)
    (case a4 => k_is)
    (case l4 => k_is)
    (case c4 => k_is)
    (case k4 => k_is)
    (case a5 => k_is)
    (case l5 => k_is)
    (case c5 => k_is)
    (case k5 => k_is)
    (case a6 => k_is)
    (case l6 => k_is)
    (case c6 => k_is)
    (case k6 => k_is)
    (case a7 => k_is)
    (case l7 => k_is)
    (case c7 => k_is)
    (case k7 => k_is)
    (case a8 => k_is)
    (case l8 => k_is)
    (case c8 => k_is)
    (case k8 => k_is)
    (case a9 => k_is)
    (case l9 => k_is)
    (case c9 => k_is)
    (case k9 => k_is)
    (case a10 => k_is)
    (case l10 => k_is)
    (case c10 => k_is)
    (case k10 => k_is)
    (case a11 => k_is)
    (case l11 => k_is)
    (case c11 => k_is)
    (case k11 => k_is)
    (case a12 => k_is)
    (case l12 => k_is)
    (case c12 => k_is)
    (case k12 => k_is)
    (case a13 => k_is)
    (case l13 => k_is)
    (case c13 => k_is)
    (case k13 => k_is)
    (case a14 => k_is)
    (case l14 => k_is)
    (case c14 => k_is)
    (case k14 => k_is)
    (case z0 => k_is)
    (case z1 => k_is)
    (case z2 => k_is)
    (case z3 => k_is)
    (case z4 => k_is)
    (case y0 => k_is)
    (case y1 => k_is)
    (case y2 => k_is)
    (case y3 => k_is)
    (case y4 => k_is)
    (case y5 => k_is)
