import PyProof.Rows.All
import Wide.All
import OpenK.AllK
import Wide.FinOn
import HandS.ForMost
import HandS.Wide
import HandS.WideBits
import HandS.IsInst
import HandS.IntHex
import HandS.FStr
import HandS.StrMore
import HandS.Style
import HandS.SetFor
import HandS.TupLe
import KE.KIntText
import KE.KxField
import KE.GoesZip
import KE.GoesMore
import KE.GoesEnum
import PyProof.FString3
import PyProof.Rows.StrRev
import PySem.Challenge.RW_leanfigures_k06_whole_products
set_option Elab.async false
set_option linter.all false
set_option maxRecDepth 100000
set_option maxHeartbeats 4000000
/-! int(text, 2), the text of any length. -/
namespace XB
open PySem PySem.NumText PySem.Calls L2

/-- binary signs alone -/
def Bits (cs : List Nat) : Prop := ∀ c ∈ cs, c = 48 ∨ c = 49
/-- what they are worth -/
def bitsVal (cs : List Nat) : Nat := cs.foldl (fun a c => 2 * a + (c - 48)) 0

theorem Bits.digits {cs : List Nat} (h : Bits cs) : AllDigits cs := fun c hc => by
  rcases h c hc with e | e <;> subst e <;> exact ⟨by decide, by decide⟩
theorem Bits.rev {cs : List Nat} (h : Bits cs) : Bits cs.reverse := fun c hc => h c (List.mem_reverse.mp hc)
theorem step2 {ds : Array Nat} {b : Bool} {c : Nat} (h : c = 48 ∨ c = 49) : PySem.NumText.step 2 (ds, b) c = some (ds.push (c - 48), true) := by
  rcases h with e | e <;> subst e <;> rfl
theorem fold2 : ∀ (cs : List Nat) (ds : Array Nat), Bits cs → List.foldlM (PySem.NumText.step 2) (ds, true) cs = some (List.foldl (fun acc c => acc.push (c - 48)) ds cs, true)
  | [], _, _ => rfl
  | c :: cs, ds, h => by
    rw [List.foldlM_cons, step2 (h c List.mem_cons_self)]
    exact fold2 cs (ds.push (c - 48)) fun d hd => h d (List.mem_cons_of_mem _ hd)
theorem digits2 {cs : List Nat} (h : Bits cs) (hne : cs ≠ []) : digits? 2 cs = some (List.foldl (fun acc c => acc.push (c - 48)) #[] cs) := by
  match cs, hne with
  | c :: r, _ =>
    unfold digits?
    rw [List.foldlM_cons, step2 (h c List.mem_cons_self)]
    have e := fold2 r ((#[] : Array Nat).push (c - 48)) fun d hd => h d (List.mem_cons_of_mem _ hd)
    show (List.foldlM (PySem.NumText.step 2) ((#[] : Array Nat).push (c - 48), true) r).bind _ = _
    rw [e]
    rfl
theorem pushed2 : ∀ (cs : List Nat) (ds : Array Nat), (List.foldl (fun acc c => acc.push (c - 48)) ds cs).foldl (fun acc d => acc * 2 + d) 0 =
    cs.foldl (fun a c => 2 * a + (c - 48)) (ds.foldl (fun acc d => acc * 2 + d) 0)
  | [], _ => rfl
  | c :: cs, ds => by
    rw [List.foldl_cons, pushed2 cs (ds.push (c - 48)), List.foldl_cons]
    congr 1
    simp [Nat.mul_comm]
theorem based2 {cs : List Nat} (h : Bits cs) : based 2 cs = (2, false, cs) := by
  match cs, h with
  | [], _ => rfl
  | [a], h =>
    rcases h a List.mem_cons_self with e | e <;> subst e <;> rfl
  | a :: c :: r, h =>
    have ha := h a List.mem_cons_self
    have hc := h c (List.mem_cons_of_mem _ List.mem_cons_self)
    rcases ha with e | e <;> rcases hc with e2 | e2 <;> subst e <;> subst e2 <;> rfl
theorem sign2 {cs : List Nat} (h : Bits cs) : sign cs = (false, cs) := by
  match cs, h with
  | [], _ => rfl
  | c :: r, h =>
    have := h c List.mem_cons_self
    exact sign_of (by omega) (by omega)
theorem read2 (limit : Nat) {cs : List Nat} (h : Bits cs) (hne : cs ≠ []) : (int_private% "readNumeral") limit 2 cs = (int_private% "Numeral.value") ((bitsVal cs : Nat) : Int) := by
  refine (readNumeral_eq limit 2 cs).trans ?_
  rw [dropWhile_digits h.digits, sign2 h]
  have e1 := based2 h
  show judge limit false (based 2 cs).1 (based 2 cs).2.1 (digits? (based 2 cs).1 (((based 2 cs).2.2.reverse.dropWhile blank).reverse)) = _
  rw [e1]
  show judge limit false 2 false (digits? 2 ((cs.reverse.dropWhile blank).reverse)) = _
  rw [dropWhile_digits h.rev.digits, List.reverse_reverse, digits2 h hne]
  have e2 := pushed2 cs #[]
  have z : (#[] : Array Nat).foldl (fun acc d => acc * 2 + d) 0 = 0 := by simp
  rw [z] at e2
  unfold judge
  dsimp only
  rw [e2]
  rfl
theorem seen2 {x : Str} (h : Bits x.cps.toList) : numTextOf x = x.cps.toList ∧ numSeenOf x = x.cps.toList :=
  numText_signs fun c hc => .inr (by have := h c hc; omega)

open PyProof.Rows in
theorem wp_maxDigits {M : Model} {A : Around} {E : Value → Shared → Prop} {s : Shared} {Q : Nat → Shared → Prop} (hn : s.heap.NoDigits) (h : Q 4300 s) : wpAny M A Builtin.intMaxStrDigits Q E s := by
  obtain ⟨mc, hns, hz⟩ := hn
  unfold Builtin.intMaxStrDigits
  refine wpAny_bind (wpAny_nsGet hns ?_)
  rw [hz]
  exact wpAny_pure h

theorem wp_text2 {M : Model} {A : Around} {E : Value → Shared → Prop} {s : Shared} {Q : Value → Shared → Prop} {v : Value} {text : List Nat} {n : Int}
    (hn : s.heap.NoDigits) (hr : ∀ limit, (int_private% "readNumeral") limit 2 (text.takeWhile (· != 0)) = (int_private% "Numeral.value") n)
    (ha : ((text.takeWhile (· != 0)).length == text.length) = true) (h : Q (.int n s.toks) { s with toks := s.toks + 1 }) :
    wpAny M A ((int_private% "intFromText") v text 2) Q E s := by
  obtain ⟨hp, g, d, tk, os⟩ := s
  by_cases hs : (text.takeWhile (· != 0)).length ≤ 640
  · exact Hx.wp_textB hs (hr 0) ha h
  · repeat (any_goals (first
      | assumption
      | (with_reducible refine wpAny_ite_false (decide_eq_false hs) ?_)
      | (with_reducible refine wpAny_ite_true (decide_eq_true ha) ?_)
      | ((with_reducible show wpAny _ _ Builtin.intMaxStrDigits _ _ _); refine wp_maxDigits hn ?_)
      | wp_step))
    all_goals (try rw [hr])
    all_goals (try dsimp only)
    repeat (any_goals (first
      | assumption
      | (with_reducible refine wpAny_ite_false (decide_eq_false hs) ?_)
      | (with_reducible refine wpAny_ite_true (decide_eq_true ha) ?_)
      | wp_step))

structure Held (p : Prop) : Prop where
  out : p
/-- what int(text, 2) wants of the state, and gives -/
def spec2 (n : Int) : Spec := fun _ R s => s.heap.NoDigits ∧ R (.ok (.ret (.int n s.toks))) { s with toks := s.toks + 1 }
set_option maxHeartbeats 4000000 in
theorem meets2 {x : PySem.Str} {u t : Tok} (h : Bits x.cps.toList) (hne : x.cps.toList ≠ []) :
    Meets (Builtin.«int.__new__» ⟨[.type "int", .str x u, .int 2 t], []⟩) (spec2 ((bitsVal x.cps.toList : Nat) : Int)) :=
  Meets.of_wp fun prog w A R s hQ => by
    obtain ⟨hp, g, d, tk, os⟩ := s
    have k1 := F.conv_sub_int
    have k2 := F.madeHere_int
    have k3 : typeOf (.str x u) = pure (.type "str") := rfl
    obtain ⟨e1, e2⟩ := seen2 h
    have hr : ∀ limit, (int_private% "readNumeral") limit 2 (numSeenOf x) = (int_private% "Numeral.value") ((bitsVal x.cps.toList : Nat) : Int) := by
      intro limit
      rw [e2]
      exact read2 limit h hne
    have ha : ((numSeenOf x).length == (numTextOf x).length) = true := by
      rw [e1, e2]
      exact beq_self_eq_true _
    have hk := Held.mk (And.intro hr (And.intro ha hQ))
    clear hr ha e1 e2 hne h hQ
    repeat (any_goals (first
      | assumption
      | ((with_reducible show wpAny _ _ ((int_private% "intFromText") _ _ _) _ _ _); refine wp_text2 hk.out.2.2.1 hk.out.1 hk.out.2.1 ?_)
      | wp_step))
    all_goals first | exact ⟨_, rfl, hk.out.2.2.2⟩ | skip
theorem call2 {prog : Program} {w : World} {A : Around} {E : Value → Shared → Prop} {s : Shared} {Q : Value → Shared → Prop} {x : PySem.Str} {u t : Tok} (hn : s.heap.NoDigits) (h : Bits x.cps.toList) (hne : x.cps.toList ≠ [])
    (hQ : Q (.int ((bitsVal x.cps.toList : Nat) : Int) s.toks) { s with toks := s.toks + 1 }) : wpAny (model prog w) A (call (.type "int") [.str x u, .int 2 t]) Q E s :=
  callType_new F.called_int F.newNe_int (Hx.typeCall_int_2 _ _) (Hx.newCall_int_2 _ _) (fun obj => F.initArgs_range_2 obj _ _) F.entry_int_new (meets2 h hne) ⟨hn, rfl, hQ⟩

/-- the facts of the written part: no limit on digits was set -/
theorem noDigits {K : PySem.W.Frag} {h : Heap} (X : K.In h) {mc : Str → Option Value} (G : h.Ns cStatics mc) (e : PySem.W.nsIn K cStatics "sys.int_max_str_digits" = some none) : h.NoDigits := by
  refine ⟨mc, G, ?_⟩
  obtain ⟨o, es, ep, ho, hd, _, hf⟩ := G
  unfold PySem.W.nsIn at e
  split at e
  · rename_i c d es' n' sl q
    have z := X _ _ q
    rw [ho] at z
    cases z
    cases hd
    split at e
    · exact nomatch e
    · rename_i hnone
      refine (hf "sys.int_max_str_digits").symm.trans ?_
      unfold nsFind
      unfold findBy
      rw [← Array.find?_toList, hnone]
      rfl
  · cases e
end XB
namespace L2
open PySem PySem.Spec PyProof.Rows
/-- int(text, 2), the text of binary signs -/
def rInt2 : List V → Hp → VK → Prop := fun xs H Q => ∃ x : Str, xs = [.str x, .int 2] ∧ XB.Bits x.cps.toList ∧ x.cps.toList ≠ [] ∧ Q (.int ((XB.bitsVal x.cps.toList : Nat) : Int)) H
theorem call_int2 {X : Cx} (e : PySem.W.nsIn X.K cStatics "sys.int_max_str_digits" = some none) : CallR X (.type "int") rInt2 := by
  intro pins s σ H xs us Q I r h
  obtain ⟨x, rfl, h1, h2, q⟩ := h
  obtain ⟨u, w', rfl, r1, r2⟩ := vals2 r
  obtain ⟨t1, rfl⟩ := r1
  obtain ⟨t2, rfl⟩ := r2
  obtain ⟨mc, G, _⟩ := I.nolimit
  exact XB.call2 (XB.noDigits I.kIn G e) h1 h2 ⟨.int _, H, I.tok _, ⟨_, rfl⟩, q⟩
end L2

namespace FG
open PySem PySem.Spec PyProof.Rows L2
/-! ### kinds of values -/
def intV : V → Bool
  | .int _ => true
  | _ => false
def figV : V → Bool
  | .int i => decide (-1 ≤ i) && decide (i ≤ 1)
  | _ => false
/-- what isinstance tells of a value: whether it is an int, a bool, a list -/
structure Kind (K : PySem.W.Frag) (H : Hp) (x : V) (i b l : Bool) : Prop where
  ex : ∃ t, TyX K H x t ∧ PySem.W.kitOne K t (.type "int") = some i ∧ PySem.W.kitOne K t (.type "bool") = some b ∧ PySem.W.kitOne K t (.type "list") = some l
section
variable {K : PySem.W.Frag} {H H' : Hp}
theorem same_upd {p : Addr} {o : HO} (h : H p = none) : Same H (upd H p o) := fun b x e => by
  have ne : b ≠ p := ne_of_none e h
  rw [upd_ne ne]
  exact e
theorem Same.tyx {x : V} {t : Value} (s : Same H H') (h : TyX K H x t) : TyX K H' x t := by
  cases h with
  | base b =>
    cases b with
    | non => exact .base .non
    | bl y => exact .base (.bl y)
    | int y => exact .base (.int y)
    | str y => exact .base (.str y)
    | flt y => exact .base (.flt y)
    | lst e => exact .base (.lst (s _ _ e))
    | frz e => exact .base (.frz (s _ _ e))
    | tup e => exact .base (.tup (s _ _ e))
    | dK e => exact .base (.dK (s _ _ e))
    | dT e => exact .base (.dT (s _ _ e))
    | ins e a b c d f => exact .base (.ins (s _ _ e) a b c d f)
  | byt y => exact .byt y
  | set e => exact .set (s _ _ e)
  | kList e c => exact .kList e c
  | kTuple e c => exact .kTuple e c
  | kDict e c => exact .kDict e c
  | fTuple e => exact .fTuple (s _ _ e)
  | fDict e => exact .fDict (s _ _ e)
theorem Kind.mono {x : V} {i b l : Bool} (k : Kind K H x i b l) (s : Same H H') : Kind K H' x i b l := by
  obtain ⟨t, h1, h2⟩ := k.ex
  exact ⟨⟨t, Same.tyx s h1, h2⟩⟩
theorem kind_of {x : V} {n : String} {i b l : Bool} (h : TyX K H x (.type n)) (h1 : kitB n "int" = some i) (h2 : kitB n "bool" = some b) (h3 : kitB n "list" = some l) : Kind K H x i b l :=
  ⟨⟨_, h, kit_ty h1, kit_ty h2, kit_ty h3⟩⟩
theorem kind_int (i : Int) : Kind K H (.int i) true false false := kind_of (.base (.int i)) (by decide +kernel) (by decide +kernel) (by decide +kernel)
theorem kind_bl (b : Bool) : Kind K H (.bl b) true true false := kind_of (.base (.bl b)) (by decide +kernel) (by decide +kernel) (by decide +kernel)
theorem kind_non : Kind K H .non false false false := kind_of (.base .non) (by decide +kernel) (by decide +kernel) (by decide +kernel)
theorem kind_str (x : Str) : Kind K H (.str x) false false false := kind_of (.base (.str x)) (by decide +kernel) (by decide +kernel) (by decide +kernel)
theorem kind_list {a : Addr} {xs : List V} (h : SqL K H a xs) : Kind K H (.ref a) false false true := by
  have z : TyX K H (.ref a) (.type "list") := by
    rcases h with h | ⟨o, its, n, hk, hc, _⟩
    · rcases h with h | ⟨o, h⟩
      · exact .base (.lst h)
      · exact .base (.frz h)
    · exact .kList hk hc
  exact kind_of z (by decide +kernel) (by decide +kernel) (by decide +kernel)
theorem kind_tup {a : Addr} {xs : List V} (h : H a = some (.tup xs)) : Kind K H (.ref a) false false false := kind_of (.base (.tup h)) (by decide +kernel) (by decide +kernel) (by decide +kernel)
theorem kind_dict {a : Addr} {kvs : List (Key × V)} (h : H a = some (.dK kvs)) : Kind K H (.ref a) false false false := kind_of (.base (.dK h)) (by decide +kernel) (by decide +kernel) (by decide +kernel)
/-- an int that is no bool: just the whole numbers -/
def Plain (K : PySem.W.Frag) (H : Hp) (x : V) : Prop := ∃ i b l, Kind K H x i b l ∧ (i && !b) = intV x
theorem Plain.mono {x : V} (h : Plain K H x) (s : Same H H') : Plain K H' x := let ⟨i, b, l, k, e⟩ := h; ⟨i, b, l, k.mono s, e⟩
theorem plain_int (i : Int) : Plain K H (.int i) := ⟨_, _, _, kind_int i, rfl⟩
theorem atI_getLast (xs : List V) (h : xs ≠ []) : atI xs (-1) = some (xs.getLast h) := by
  have e := atI_last xs.dropLast (xs.getLast h)
  rw [List.dropLast_concat_getLast] at e
  exact e
end

/-! ### rows of figures -/
/-- a row: figures alone, the last one other than 0 -/
def Row (ns : List Int) : Prop := (∀ n ∈ ns, -1 ≤ n ∧ n ≤ 1) ∧ ns.getLast? ≠ some 0
/-- what a row is worth -/
def val : List Int → Int
  | [] => 0
  | n :: r => n + 2 * val r
/-- the worth of a row's figures f alone, told by ones -/
def mk (f : Int) : List Int → Nat
  | [] => 0
  | n :: r => (if n = f then 1 else 0) + 2 * mk f r
theorem mk_val : ∀ ns : List Int, (∀ n ∈ ns, -1 ≤ n ∧ n ≤ 1) → ((mk 1 ns : Nat) : Int) - ((mk (-1) ns : Nat) : Int) = val ns
  | [], _ => rfl
  | n :: r, h => by
    have ih := mk_val r fun m hm => h m (List.mem_cons_of_mem _ hm)
    have hn := h n List.mem_cons_self
    show (((if n = 1 then 1 else 0) + 2 * mk 1 r : Nat) : Int) - (((if n = -1 then 1 else 0) + 2 * mk (-1) r : Nat) : Int) = n + 2 * val r
    have c : n = -1 ∨ n = 0 ∨ n = 1 := by omega
    rcases c with e | e | e <;> subst e <;> simp <;> omega
/-- the sign of a figure, asked for f -/
def sg (f n : Int) : Nat := if n = f then 49 else 48
theorem sg_bits (f : Int) (ns : List Int) : XB.Bits (48 :: ns.map (sg f)) := fun c hc => by
  rcases List.mem_cons.mp hc with e | e
  · exact .inl e
  · obtain ⟨n, _, e⟩ := List.mem_map.mp e
    subst e
    unfold sg
    split
    · exact .inr rfl
    · exact .inl rfl
theorem sg_val (f : Int) (ns : List Int) : XB.bitsVal (48 :: (ns.reverse.map (sg f))) = mk f ns := by
  unfold XB.bitsVal
  rw [List.foldl_cons, List.map_reverse, List.foldl_reverse]
  induction ns with
  | nil => rfl
  | cons n r ih =>
    rw [List.map_cons, List.foldr_cons, ih]
    show 2 * mk f r + (sg f n - 48) = (if n = f then 1 else 0) + 2 * mk f r
    unfold sg
    split <;> omega
/-! ### texts of signs -/
def sign1 (c : Nat) : Str := ⟨#[c]⟩
theorem joinL_nil : ∀ ls : List (List Nat), TL.joinL [] ls = ls.flatten
  | [] => rfl
  | [p] => by simp [TL.joinL]
  | p :: q :: r => by
    have ih := joinL_nil (q :: r)
    show p ++ ([] ++ TL.joinL [] (q :: r)) = (p :: q :: r).flatten
    rw [ih]
    simp
theorem joined_signs (e : Str) (he : e.cps.toList = []) (cs : List Nat) : (Txt.join e (cs.map sign1)).cps.toList = cs := by
  have h := TL.tl_join e (cs.map sign1)
  rw [← TL.join_eq] at h
  have h0 : TL.tl e = [] := he
  rw [h0, joinL_nil, List.map_map] at h
  refine Eq.trans h ?_
  induction cs with
  | nil => rfl
  | cons c r ih =>
    have h' := TL.tl_join e (r.map sign1)
    rw [← TL.join_eq, h0, joinL_nil, List.map_map] at h'
    rw [List.map_cons, List.flatten_cons, ih h']
    rfl
theorem app_list (a b : Str) : (a ++ b).cps.toList = a.cps.toList ++ b.cps.toList := by
  show (a.cps ++ b.cps).toList = _
  simp

/-! ### lists of whole numbers compared -/
def dI (ns : List Int) : PyData := .list (ns.map PyData.int)
theorem dI_depthAll : ∀ ns : List Int, PyData.depthAll (ns.map PyData.int) ≤ 1
  | [] => by simp [PyData.depthAll]
  | n :: r => by
    have ih := dI_depthAll r
    simp only [List.map_cons, PyData.depthAll, PyData.depth]
    omega
theorem dI_lay : ∀ ns : List Int, PyData.canLayAll0 (ns.map PyData.int) = true
  | [] => by simp [PyData.canLayAll0]
  | n :: r => by
    have ih := dI_lay r
    simp [PyData.canLayAll0, PyData.canLay0, ih]
theorem dI_shaped (ns : List Int) : SeqAt.shaped (dI ns) = true := by
  have h1 := dI_depthAll ns
  have h2 : PyData.depth (dI ns) ≤ 64 := by
    simp only [dI, PyData.depth]
    omega
  unfold SeqAt.shaped
  rw [Bool.and_eq_true]
  exact ⟨by simp only [dI, PyData.canLay0]; exact dI_lay ns, decide_eq_true h2⟩
theorem dI_eqvAll : ∀ ns ms : List Int, PyData.eqvAll (ns.map PyData.int) (ms.map PyData.int) = decide (ns = ms)
  | [], [] => by simp [PyData.eqvAll]
  | [], _ :: _ => by simp [PyData.eqvAll]
  | _ :: _, [] => by simp [PyData.eqvAll]
  | n :: r, m :: t => by
    have ih := dI_eqvAll r t
    simp only [List.map_cons, PyData.eqvAll, PyData.eqv, ih]
    by_cases h1 : n = m
    · by_cases h2 : r = t
      · simp [h1, h2]
      · simp [h1, h2]
    · simp [h1]
theorem dI_eqv (ns ms : List Int) : PyData.eqv (dI ns) (dI ms) = decide (ns = ms) := by
  show PyData.eqvAll _ _ = _
  exact dI_eqvAll ns ms
theorem dpAll {K : PySem.W.Frag} {H : Hp} : ∀ ns : List Int, DpAll K H (ns.map V.int) (ns.map PyData.int)
  | [] => .nil
  | n :: r => .cons (.int n) (dpAll r)
theorem dp_ints {K : PySem.W.Frag} {H : Hp} {a : Addr} {ns : List Int} (h : SqL K H a (ns.map V.int)) : Dp K H (.ref a) (dI ns) := .lst h (dpAll ns)
/-- the item behind the last but none: xs[-1:] -/
theorem cutLast (ns : List Int) : cutV (ns.map V.int) (some (-1)) none = (ns.drop (ns.length - 1)).map V.int := by
  have e : HT.sIx (ns.map V.int).length 0 (some (-1)) = ns.length - 1 := by
    show (if (-1 : Int) < 0 then ((-1 : Int) + ((ns.map V.int).length : Int)).toNat else min (-1 : Int).toNat (ns.map V.int).length) = _
    rw [if_pos (by decide), List.length_map]
    show ((-1 : Int) + (ns.length : Int)).toNat = ns.length - 1
    omega
  unfold cutV
  rw [e, HT.sIx_none, List.map_drop]
  apply List.take_of_length_le
  rw [List.length_drop, List.length_map]
  omega
theorem last_zero {ns : List Int} (h : ns.getLast? ≠ some 0) : ns.drop (ns.length - 1) ≠ [0] := fun e => by
  apply h
  rw [List.getLast?_eq_getElem?]
  have z := congrArg (fun l => l[0]?) e
  simp only [List.getElem?_drop] at z
  simpa using z
theorem val_append : ∀ (a b : List Int), val (a ++ b) = val a + 2 ^ a.length * val b
  | [], b => by simp [val]
  | n :: r, b => by
    have ih := val_append r b
    show n + 2 * val (r ++ b) = n + 2 * val r + 2 ^ (r.length + 1) * val b
    rw [ih, Int.pow_succ, Int.mul_add]
    have : (2 : Int) ^ r.length * 2 * val b = 2 * (2 ^ r.length * val b) := by
      rw [Int.mul_comm ((2 : Int) ^ r.length) 2, Int.mul_assoc]
    omega
theorem val_take {ns : List Int} {i : Nat} (h : i < ns.length) : val (ns.take (i + 1)) = val (ns.take i) + ns[i] * 2 ^ i := by
  rw [List.take_add_one, List.getElem?_eq_getElem h, val_append]
  have e : (ns.take i).length = i := by
    rw [List.length_take]
    omega
  rw [e]
  show _ + 2 ^ i * (ns[i] + 2 * 0) = _
  rw [Int.mul_zero, Int.add_zero, Int.mul_comm]

/-- a loop over enumerate of a list: Inv by the turn -/
theorem for_enum {K : PySem.W.Frag} {a : Addr} {xs : List V} {g : TG} {tb : TS} {D : Ends} {σ : L2.St} {H : Hp} (Iv : Nat → L2.St → Hp → Prop) (start : Iv 0 σ H) (still : ∀ i σ H, Iv i σ H → SqL K H a xs)
    (turn : ∀ (i : Nat) (x : V) (t : Addr) (σ : L2.St) (H : Hp), xs[i]? = some x → Iv i σ H → H t = none → g (.ref t) σ (upd H t (.tup [.int (i : Nat), x])) fun σ2 H2 => tb { D with nx := Iv (i + 1), ct := Iv (i + 1), bk := D.nx } σ2 H2)
    (stop : ∀ σ H, Iv xs.length σ H → D.nx σ H) :
    ∃ W : Nat → Nat → L2.St → Hp → Prop, (∃ m, W 0 m σ H) ∧ ∀ i m σ H, W i m σ H →
      ((Ite K a).stop i H ∧ D.nx σ H) ∨ ((Ite K a).go i H ∧ ∃ N : L2.St → Hp → Prop, (∀ σ' H', N σ' H' → ∃ m', m' < m ∧ W (i + 1) m' σ' H') ∧ ∀ v H', (Ite K a).yld i H v H' → g v σ H' fun σ2 H2 => tb { D with nx := N, ct := N, bk := D.nx } σ2 H2) := by
  refine ⟨fun i m σ H => i + m = xs.length ∧ Iv i σ H, ⟨xs.length, Nat.zero_add _, start⟩, fun i m σ H hW => ?_⟩
  obtain ⟨em, iv⟩ := hW
  have sq := still i σ H iv
  by_cases hi : i < xs.length
  · refine .inr ⟨⟨xs, xs[i], sq, List.getElem?_eq_getElem hi⟩, Iv (i + 1), fun σ' H' h' => ⟨m - 1, by omega, by omega, h'⟩, fun v H' hy => ?_⟩
    obtain ⟨t, x, rfl, nt, rfl, fx⟩ := hy
    exact turn i x t σ H (fx _ sq) iv nt
  · have e : i = xs.length := by omega
    subst e
    exact .inl ⟨⟨xs, sq, Nat.le_refl _⟩, stop σ H iv⟩
theorem small_ok {n : Nat} (h : n ≤ 64) : n ≤ sizeLine := Nat.le_trans h (by decide)
/-- of each two neighbours one is 0 -/
def gaps : List Int → Bool
  | x :: y :: r => (decide (x = 0) || decide (y = 0)) && gaps (y :: r)
  | _ => true
/-- a row is handed in at a -/
def RowAt (K : PySem.W.Frag) (H : Hp) (a : Addr) (ns : List Int) : Prop := SqL K H a (ns.map V.int) ∧ Row ns ∧ ns.length ≤ 4000000
theorem RowAt.mono {K : PySem.W.Frag} {H H' : Hp} {a : Addr} {ns : List Int} (r : RowAt K H a ns) (s : Same H H') : RowAt K H' a ns := ⟨s.seq r.1, r.2⟩
end FG

/-! an f-string with the field {n:b} -/
namespace XB
open PySem PySem.Calls PySem.W Builtin Builtin.Int Builtin.Float PyProof.Rows

/-- the signs of a number at twos, a minus ahead -/
def binSigns (a : Int) : List Nat := (if decide (a < 0) = true then [45] else []) ++ (Nat.toDigits 2 a.natAbs).map Char.toNat
def binText (a : Int) : PySem.Str := ⟨(binSigns a).toArray⟩

theorem toDigits_ne (n : Nat) : (Nat.toDigits 2 n).isEmpty = false := by
  cases e : Nat.toDigits 2 n with
  | cons c r => rfl
  | nil => 
    have := Nat.toDigits_ne_nil (n := n) (b := 2)
    exact absurd e this

/-- a field without width, fill or sign -/
theorem plainField (f : FormatSpec) (a : Int) (hd : (Nat.toDigits 2 a.natAbs).isEmpty = false) (h1 : f.width = none) (h2 : f.sign = none) (h3 : f.grouping = none) (h4 : f.align = 62) (h5 : f.fill = 32) :
    intField' f (decide (a < 0)) [] ((Nat.toDigits 2 a.natAbs).map fun c => (if (98 : Nat) == 88 then c.toUpper else c).toNat) [] 4 = binText a := by
  have e0 : ((Nat.toDigits 2 a.natAbs).map fun c => (if (98 : Nat) == 88 then c.toUpper else c).toNat) = (Nat.toDigits 2 a.natAbs).map Char.toNat := rfl
  rw [e0]
  have e1 : ((Nat.toDigits 2 a.natAbs).map Char.toNat).isEmpty = false := by simpa using hd
  unfold intField' binText binSigns
  simp only [h1, h2, h3, h4, h5, e1]
  by_cases hn : a < 0
  · simp [hn]
  · simp [hn]

set_option maxHeartbeats 4000000 in
theorem meets_b (a : Int) (t u : Tok) (hl : (binText a).length ≤ sizeLine) : Meets (Builtin.«int.__format__» ⟨[.int a t, .str (Str.ofString "b") u], []⟩) (fun _ R s => ∀ t' k, R (.ok (.ret (.str (binText a) t'))) { s with toks := k }) := by
  apply KPc.meets_of
  intro prog w A R s Q hQ
  unfold Builtin.«int.__format__»
  refine wpAny_bind (wpAny_of_eq (a := (_, _)) rfl ?_)
  refine wpAny_bind (wpAny_of_eq (a := a) rfl ?_)
  kxf_if
  refine wpAny_bind (wpAny_typeNameOf (T := "str") (typeIs_str _ _ _) (by decide) fun _ => ?_)
  refine wpAny_bind (wpAny_of_eq (a := some _) rfl ?_)
  kxf_if
  kxf_if
  refine wpAny_bind (wpAny_typeNameOfCut_int ?_)
  have ep : ∃ f, parseFormatSpec (Str.ofString "b").cps.toList "int" 62 = .ok f ∧ f.type = some 98 ∧ f.precision = none ∧ f.noNeg0 = false ∧ f.width = none ∧ f.alt = false ∧ f.sign = none ∧ f.grouping = none ∧ f.align = 62 ∧ f.fill = 32 := ⟨_, rfl, rfl, rfl, rfl, rfl, rfl, rfl, rfl, rfl, rfl⟩
  obtain ⟨f, e0, e1, e2, e3, e4, e5, e6, e7, e8, e9⟩ := ep
  have hf := fun hd => plainField f a hd e4 e6 e7 e8 e9
  have hd := toDigits_ne a.natAbs
  rw [e0]
  dsimp only
  rw [e1]
  kxf_if
  cases f
  dsimp only at e1 e2 e3 e4 e5 e6 e7 e8 e9
  subst e1 e2 e3 e4 e5 e6 e7 e8 e9
  exact KXf.ret_text (hf hd) (Nat.le_trans (Nat.le_of_eq (congrArg PySem.Str.length (hf hd))) hl) hQ
theorem field_b {prog : Program} {w : World} {A : Around} {E : Value → Shared → Prop} {s : Shared} {Q : Value → Shared → Prop} {a : Int} {t : Tok} (hl : (binText a).length ≤ sizeLine)
    (h : ∀ t' k, Q (.str (binText a) t') { s with toks := k }) : wpAny (model prog w) A (formatField (.int a t) (Str.ofString "b")) Q E s :=
  KXf.field_int rfl (by decide +kernel) (by decide +kernel) (fun u => meets_b a t u hl) h
end XB
namespace L2
open PySem PySem.Spec PyProof.Rows
/-- {n:b}: a whole number at twos -/
def tFmtB (te : TE) : TE := fun σ H Q => te σ H fun x H1 => ∃ i : Int, x = .int i ∧ (XB.binText i).length ≤ sizeLine ∧ Q (.str (XB.binText i)) H1
theorem pe_fmtB {X : Cx} {e : Expr} {te : TE} {pos p1 p2 : Pos} {k : Nat} (he : PE X e te) : PE X (.FormattedValue e (-1) (some (.JoinedStr [.Constant (.str (Str.ofString "b")) k p1] p2)) pos) (tFmtB te) := by
  refine ⟨fun pins s σ H Q I h => ?_⟩
  refine wpAny_FormattedValue_spec (thn (he.run pins s σ H _ I h) fun v s1 hv => ?_)
  obtain ⟨x, H1, I1, r1, i, rfl, hz, q⟩ := hv
  obtain ⟨t, rfl⟩ := r1
  refine wpAny_JoinedStr_one (Calls.Constant_str ⟨_, _, rfl, ?_⟩)
  exact XB.field_b hz fun t' k' => ⟨.str (XB.binText i), H1, I1.tok _, ⟨_, rfl⟩, q⟩
end L2

/-! text[::-1] -/
namespace L2
open PySem PySem.Spec PyProof.Rows PySem.Builtin PySem.Builtin.Str
/-- the signs of a text, turned round -/
theorem turned_list (x : Str) (u : Tok) : (Txt.sliceBy x none none (-1, u)).cps.toList = x.cps.toList.reverse := by
  rw [step_rev_list]
  apply List.ext_getElem
  · rw [List.length_map, List.length_range, List.length_reverse, Array.length_toList]
    rfl
  · intro i h1 h2
    have hi : i < x.cps.size := by simpa using h2
    have e : x.length = x.cps.size := rfl
    rw [List.getElem_map, List.getElem_range, List.getElem_reverse, e]
    have hj : x.cps.size - 1 - i < x.cps.size := by omega
    simp [Array.getD, hj]
def tRevT (te : TE) : TE := fun σ H Q => te σ H fun x H1 => ∃ z : Str, x = .str z ∧ z.length ≤ sizeLine ∧ ∀ y : Str, y.cps.toList = z.cps.toList.reverse → Q (.str y) H1
theorem pe_revT {X : Cx} {e : Expr} {te : TE} {k : Nat} {p1 p2 p3 pos : Pos} (he : PE X e te) : PE X (.Subscript e (.Slice none none (some (.UnaryOp .USub (.Constant (.int 1) k p1) p2)) p3) pos) (tRevT te) := by
  refine ⟨fun pins s σ H Q I h => ?_⟩
  refine Subscript_ (thn (he.run pins s σ H _ I h) fun v s1 ⟨x, H1, I1, r1, z, ex, hz, q⟩ => ?_)
  subst ex
  obtain ⟨t, rfl⟩ := r1
  have hst : PO X (some (.UnaryOp .USub (.Constant (.int 1) k p1) p2)) (tPart (tUn (rU fun i => .int (-i)) (tC (.int 1)))) := po_some (pe_un un_neg pe_int)
  refine wpAny_Slice (thn (po_none.run pins s1 σ H1 (fun o H2 => o = none ∧ H2 = H1) I1 ⟨rfl, rfl⟩) fun vl s2 ⟨l, H2, I2, pl, el, e2⟩ => ?_)
  subst el
  subst e2
  refine thn (po_none.run pins s2 σ H2 (fun o H3 => o = none ∧ H3 = H2) I2 ⟨rfl, rfl⟩) fun vu s3 ⟨u, H3, I3, pu, eu, e3⟩ => ?_
  subst eu
  subst e3
  refine thn (hst.run pins s3 σ H3 (fun o H4 => o = some (-1) ∧ H4 = H3) I3 ⟨1, rfl, -1, rfl, rfl, rfl⟩) fun vs s4 ⟨o, H4, I4, ps, eo, e4⟩ => ?_
  subst eo
  subst e4
  obtain ⟨l', h1, h2⟩ := IsPart.raw pl
  obtain ⟨u', h3, h4⟩ := IsPart.raw pu
  obtain ⟨st', h5, h6⟩ := IsPart.raw ps
  cases l' with
  | some y => exact nomatch h2
  | none =>
    cases u' with
    | some y => exact nomatch h4
    | none =>
      cases st' with
      | none => exact nomatch h6
      | some y =>
        obtain ⟨j, tj⟩ := y
        have ej : j = -1 := Option.some.inj h6
        subst ej
        subst h1
        subst h3
        subst h5
        have I5 : Inv X pins σ H4 { s4 with heap := s4.heap.push { cls := .type "slice", data := .fields #[.none, .none, .int (-1) tj] } } := I4.kept (t' := s4.toks) fun b ob g => Heap.get?_push_of_some _ g
        refine tail_any (ops := [.ref s4.heap.objs.size, .str z t]) (typeIs_str _ _ _) PySem.F.slot_str_getitem.lookup ?_ (by with_unfolding_all rfl)
        refine wpAny_getItem_str_slice (l := none) (u := none) (st := some (-1, tj)) ⟨_, Heap.get?_push_size _ rfl, rfl, rfl⟩ rfl ?_
        refine post_val_or_str ⟨Nat.le_trans (Txt.sliceBy_le z none none (-1, tj) (show (-1 : Int) ≠ 0 by decide)) hz, fun t' c => ?_⟩
        exact ⟨.str (Txt.sliceBy z none none (-1, tj)), H4, I5.tok _, ⟨_, rfl⟩, q _ (turned_list z tj)⟩
end L2

set_option maxHeartbeats 4000000
/-! for a, b in zip(x, y), x and y two texts -/
namespace FG
open PySem PySem.Spec PyProof.Rows L2
/-- two texts, sign by sign, the signs in new pairs -/
def ItzS (x y : Str) : It :=
  ⟨fun i _ => i < x.cps.size ∧ i < y.cps.size, fun i H v H' => ∃ t c d, v = .ref t ∧ H t = none ∧ H' = upd H t (.tup [.str (sign1 c), .str (sign1 d)]) ∧ x.cps[i]? = some c ∧ y.cps[i]? = some d,
    fun i _ => x.cps.size ≤ i ∨ y.cps.size ≤ i⟩
/-- where the zip stands at its turn -/
def StzS (z q1 q2 i1 i2 : Addr) (x y : Str) (t u : Tok) (i : Nat) (h : Heap) : Prop :=
  i ≤ x.cps.size ∧ i ≤ y.cps.size ∧ IsZip h z q1 q2 .none ∧ IsTupOf2 h q1 (.ref i1) (.ref i2) ∧ (∃ a b, IsTupOf2 h q2 a b) ∧ h.IsStrIter i1 (strIterType x) x t i ∧ h.IsStrIter i2 (strIterType y) y u i
theorem turn_zipS {P : Program} {w : World} {K : PySem.W.Frag} {elts : List Expr} {kk : Nat} {tpos : Pos} {z q1 q2 i1 i2 : Addr} {x y : Str} {t u : Tok} (D : ZipSep2 z q1 q2 i1 i2 [i1] [i2]) :
    Turn P w K (.Tuple elts kk tpos) (ItzS x y) [z, q1, q2, i1, i2] z (StzS z q1 q2 i1 i2 x y t u) where
  mem := by simp
  obj := fun i h st c hc => by
    obtain ⟨_, _, hz, h1, ⟨a, b, h2⟩, ⟨o1, g1, _, d1⟩, ⟨o2, g2, _, d2⟩⟩ := st
    have hc' : c = z ∨ c = q1 ∨ c = q2 ∨ c = i1 ∨ c = i2 := by simpa using hc
    rcases hc' with e | e | e | e | e <;> subst e
    · exact ⟨_, hz, fun v q => nomatch q⟩
    · exact ⟨_, h1, fun v q => nomatch q⟩
    · exact ⟨_, h2, fun v q => nomatch q⟩
    · exact ⟨o1, g1, fun v q => by rw [d1] at q; exact nomatch q⟩
    · exact ⟨o2, g2, fun v q => by rw [d2] at q; exact nomatch q⟩
  keep := fun i h h' st k => by
    obtain ⟨l1, l2, hz, h1, ⟨a, b, h2⟩, g1, g2⟩ := st
    obtain ⟨o1, e1, r1⟩ := g1
    obtain ⟨o2, e2, r2⟩ := g2
    exact ⟨l1, l2, k z (by simp) _ hz, k q1 (by simp) _ h1, ⟨a, b, k q2 (by simp) _ h2⟩, ⟨o1, k i1 (by simp) _ e1, r1⟩, ⟨o2, k i2 (by simp) _ e2, r2⟩⟩
  item := by
    intro X hP hw hK hc i pins s σ H E I hf st hg
    subst hP
    subst hw
    subst hK
    obtain ⟨l1, l2, hz, h1, ⟨a, b, h2⟩, g1, g2⟩ := st
    have hh := I.ok.hd hc
    have zl : z < s.heap.objs.size := Heap.lt_size hz
    refine wpAny_pyNext_zipD2_item D (Draws.text (A := X.A.in1) hh i1 x t) (Draws.text (A := X.A.in1) hh i2 y u) hz h1 h2 g1 g2 hg.1 hg.2 fun v1 v2 h' tk p1 p2 z' h2' g1' g2' hT hsz hk => ?_
    obtain ⟨c, u1, ec, rfl⟩ := p1
    obtain ⟨d, u2, ed, rfl⟩ := p2
    refine ⟨_, rfl, wpAny_letOwnedTupleGo_zip (s := { s with heap := h', toks := tk }) z' fun h'' z'' sb => ?_⟩
    have far : s.heap.objs.size ≠ z := Nat.ne_of_gt zl
    have hT2 := (sb.2 _ far).trans hT
    have new : ObjOk X.prog X.w (upd H s.heap.objs.size (.tup [.str (sign1 c), .str (sign1 d)])) h'' s.heap.objs.size (.tup [.str (sign1 c), .str (sign1 d)]) :=
      ⟨small_ok (by simp), [_, _], .cons ⟨u1, rfl⟩ (.cons ⟨u2, rfl⟩ .nil), ⟨_, hT2, rfl, _, rfl⟩⟩
    have I1 : Inv X pins σ (upd H s.heap.objs.size (.tup [.str (sign1 c), .str (sign1 d)])) { s with heap := h'', toks := tk } :=
      I.turnedNew (t' := tk) (ch := [z, q1, q2, i1, i2]) (fun b o hb e => (sb.2 b fun r => hb (by simp [r])).trans (hk b o (fun r => hb (by simp [r])) (fun r => hb (by simp [r])) (fun r => hb (by simp [r])) (fun r => hb (by simp [r])) e)) hf (Nat.le_refl _) new
    have keepI : ∀ {j : Addr} {w : Str} {v : Tok} {m : Nat}, j ≠ z → h'.IsStrIter j (strIterType w) w v m → h''.IsStrIter j (strIterType w) w v m := fun nj ⟨o, e, r⟩ => ⟨o, (sb.2 _ nj).trans e, r⟩
    refine ⟨.ref s.heap.objs.size, _, I1, rfl, ⟨_, c, d, rfl, I.hok.fresh (Nat.le_refl _), rfl, ec, ed⟩, ⟨hg.1, hg.2, z'', ?_, ⟨.str ⟨#[c]⟩ u1, .str ⟨#[d]⟩ u2, ?_⟩, keepI D.zi1.symm g1', keepI D.zi2.symm g2'⟩, fun b hb => ?_⟩
    · exact (sb.2 _ D.TIz).trans (hk _ _ D.TIz D.TITO D.TIi1 D.TIi2 h1)
    · exact (sb.2 _ D.TOz).trans h2'
    · have lb : b < s.heap.objs.size := by
        obtain ⟨o1, e1, _⟩ := g1
        obtain ⟨o2, e2, _⟩ := g2
        have hb' : b = z ∨ b = q1 ∨ b = q2 ∨ b = i1 ∨ b = i2 := by simpa using hb
        rcases hb' with r | r | r | r | r <;> rw [r]
        · exact zl
        · exact Heap.lt_size h1
        · exact Heap.lt_size h2
        · exact Heap.lt_size e1
        · exact Heap.lt_size e2
      rw [upd_ne (Nat.ne_of_lt lb)]
      exact (hf b hb).1
  done := by
    intro X hP hw hK hc i pins s σ H E I hf st hg
    subst hP
    subst hw
    subst hK
    obtain ⟨l1, l2, hz, h1, ⟨a, b, h2⟩, g1, g2⟩ := st
    have hh := I.ok.hd hc
    have he : i = x.cps.size ∨ i = y.cps.size := by
      rcases hg with e | e
      · exact .inl (Nat.le_antisymm l1 e)
      · exact .inr (Nat.le_antisymm l2 e)
    exact wpAny_pyNext_zipD2_end D (Draws.text (A := X.A.in1) hh i1 x t) (Draws.text (A := X.A.in1) hh i2 y u) hz h1 h2 g1 g2 l1 l2 he fun h' tk hk => ⟨rfl, I.turnedL (t' := tk) (ch := [z, q1, q2, i1, i2]) (fun c o hb e =>
      hk c o (fun r => hb (by simp [r])) (fun r => hb (by simp [r])) (fun r => hb (by simp [r])) (fun r => hb (by simp [r])) e) hf⟩
  self := fun A i s Q E st h => wpAny_pyIter_zip st.2.2.1 h
def iZipS (ta : TA) : TI := fun σ H R => ta σ H fun vs H1 => ∃ x y : Str, vs = [.str x, .str y] ∧ R (ItzS x y) H1
theorem pi_zipS {X : Cx} {e e2 : Expr} {ta : TA} {p pos tpos : Pos} {elts : List Expr} {kk : Nat} (hg : Gl X "zip") (hm : X.mg "zip" = none) (ha : PA X [e, e2] ta)
    (hs : starEach [e, e2] X.env = (false, eval e X.env) :: starEach [e2] X.env := by rfl) (hpl : (backTo pos (starEach [e2] X.env)).any (·.1) = false := by rfl) :
    PI X (.Tuple elts kk tpos) (.Call (.Name "zip" p) [e, e2] [] pos) (iZipS ta) := by
  refine ⟨fun pins s σ H R I h => ?_⟩
  refine Call_ (ld_blt I hg hm PyProof.Rows.boot_zip (PyProof.Rows.callWith_type1 (thn (ha.run pos pins s σ H _ I h) fun us s1 ⟨vs, H1, I1, r1, x, y, ev, q⟩ => ?_) hs hpl))
  subst ev
  obtain ⟨v1, v2, rfl, g1, g2⟩ := vals2 r1
  obtain ⟨t, rfl⟩ := g1
  obtain ⟨u, rfl⟩ := g2
  refine zip_begins2 (begins_text x t) (begins_text y u) trivial trivial fun h' hz h1 h2 e1 e2 hsz hk => wpAny_pyIter_zip hz ?_
  have I2 : Inv X pins σ H1 { s1 with heap := h' } := I1.kept (t' := s1.toks) hk
  have D : ZipSep2 (s1.heap.objs.size + 4) (s1.heap.objs.size + 2) (s1.heap.objs.size + 3) s1.heap.objs.size (s1.heap.objs.size + 1) [s1.heap.objs.size] [s1.heap.objs.size + 1] :=
    zip_sep2 (N := s1.heap.objs.size) (fp1 := []) (fp2 := []) (fun b hb => nomatch hb) (fun b hb => nomatch hb)
  refine ⟨s1.heap.objs.size + 4, [s1.heap.objs.size + 4, s1.heap.objs.size + 2, s1.heap.objs.size + 3, s1.heap.objs.size, s1.heap.objs.size + 1], _, _, H1, rfl, I2, turn_zipS (x := x) (y := y) (t := t) (u := u) D,
    ⟨Nat.zero_le _, Nat.zero_le _, hz, h1, ⟨_, _, h2⟩, ⟨_, e1, rfl, rfl⟩, ⟨_, e2, rfl, rfl⟩⟩, fun b hb => ?_, q⟩
  have hb' : b = s1.heap.objs.size + 4 ∨ b = s1.heap.objs.size + 2 ∨ b = s1.heap.objs.size + 3 ∨ b = s1.heap.objs.size ∨ b = s1.heap.objs.size + 1 := by simpa using hb
  have lb : s1.heap.objs.size ≤ b := by
    rcases hb' with r | r | r | r | r <;> rw [r]
    · exact Nat.le_add_right _ _
    · exact Nat.le_add_right _ _
    · exact Nat.le_add_right _ _
    · exact Nat.le_refl _
    · exact Nat.le_add_right _ _
  exact I1.fpOk lb (I1.hok.fresh lb)
end FG

namespace FG
open PySem PySem.Spec PyProof.Rows L2
/-- list + list, each one a list that is read, the script too -/
def rCatS (K : PySem.W.Frag) : R2 := fun x y H Q => ∃ l b xs zs, x = .ref l ∧ y = .ref b ∧ SqL K H l xs ∧ SqL K H b zs ∧ xs.length + zs.length ≤ sizeLine ∧ ∀ p, H p = none → Q (.ref p) (upd H p (.lst (xs ++ zs)))
theorem op_catS {X : Cx} : OpR X (binaryOp .Add) (rCatS X.K) := by
  intro pins s σ H x y v u Q I rx ry h
  obtain ⟨l, b, xs, zs, rfl, rfl, h1, h2, hz, q⟩ := h
  cases rx
  cases ry
  obtain ⟨its, r1, p1, _⟩ := I.list h1
  obtain ⟨jts, r2, p2, _⟩ := I.list h2
  obtain ⟨⟨c1, e1, d1, t1⟩, g1, k1, n1, w1⟩ := p1.isList
  obtain ⟨⟨c2, e2, d2, t2⟩, g2, k2, n2, w2⟩ := p2.isList
  simp only at k1 w1 k2 w2
  subst k1
  subst w1
  subst k2
  subst w2
  have hl1 := r1.length
  have hl2 := r2.length
  have e : its.toArray ++ jts.toArray = (its ++ jts).toArray := by simp
  refine concat_meets ⟨_, g1, rfl⟩ ⟨_, g2, rfl⟩ noFill_list_add seq_list_add PySem.F.slot_list_add PySem.F.entry_list_add (PySem.F.args_list_add_2 _ _)
    (list_addW l b its.toArray jts.toArray n1 n2 e1 e2 t1 t2 (by rw [List.size_toArray, List.size_toArray]; omega)) ⟨g1, g2, ?_⟩
  rw [e]
  exact ⟨.ref _, _, I.lnew (t' := s.toks) (r1.append r2) (by rw [List.length_append]; omega), rfl, q _ I.fresh⟩
end FG

set_option maxHeartbeats 4000000
namespace FG
open PySem PyProof.Rows L2
open PySem.Builtin (bitAnd bitOr bitXor bitNot)
/-! ### the places of whole numbers -/
theorem nat_and (a b : Nat) : a &&& b = 2 * (a / 2 &&& b / 2) + (a % 2) * (b % 2) := by
  have h1 := @Nat.and_div_two a b
  have h2 := @Nat.and_mod_two_eq_one a b
  have ha : a % 2 = 0 ∨ a % 2 = 1 := by omega
  have hb : b % 2 = 0 ∨ b % 2 = 1 := by omega
  rw [← h1]
  generalize a &&& b = W at h2 ⊢
  clear h1
  rcases ha with ha | ha <;> rcases hb with hb | hb <;> rw [ha, hb] at h2 ⊢ <;> omega
theorem nat_or (a b : Nat) : a ||| b = 2 * (a / 2 ||| b / 2) + (a % 2 + b % 2 - (a % 2) * (b % 2)) := by
  have h1 := @Nat.or_div_two a b
  have h2 := @Nat.or_mod_two_eq_one a b
  have ha : a % 2 = 0 ∨ a % 2 = 1 := by omega
  have hb : b % 2 = 0 ∨ b % 2 = 1 := by omega
  rw [← h1]
  generalize a ||| b = W at h2 ⊢
  clear h1
  rcases ha with ha | ha <;> rcases hb with hb | hb <;> rw [ha, hb] at h2 ⊢ <;> omega
theorem not_half (x : Int) : bitNot x / 2 = bitNot (x / 2) ∧ bitNot x % 2 = 1 - x % 2 := by
  unfold bitNot
  omega
theorem and_pp {x y : Int} (hx : 0 ≤ x) (hy : 0 ≤ y) : bitAnd x y = ((x.toNat &&& y.toNat : Nat) : Int) := by
  unfold bitAnd
  rw [decide_eq_true hx, decide_eq_true hy]
theorem and_pn {x y : Int} (hx : 0 ≤ x) (hy : y < 0) : bitAnd x y = x - ((x.toNat &&& (bitNot y).toNat : Nat) : Int) := by
  unfold bitAnd
  rw [decide_eq_true hx, decide_eq_false (by omega)]
theorem and_np {x y : Int} (hx : x < 0) (hy : 0 ≤ y) : bitAnd x y = y - ((y.toNat &&& (bitNot x).toNat : Nat) : Int) := by
  unfold bitAnd
  rw [decide_eq_false (by omega), decide_eq_true hy]
theorem and_nn {x y : Int} (hx : x < 0) (hy : y < 0) : bitAnd x y = bitNot (((bitNot x).toNat ||| (bitNot y).toNat : Nat) : Int) := by
  unfold bitAnd
  rw [decide_eq_false (by omega), decide_eq_false (by omega)]
theorem bit01 (x : Int) : x % 2 = 0 ∨ x % 2 = 1 := by omega
theorem nbit01 (x : Nat) : x % 2 = 0 ∨ x % 2 = 1 := by omega
theorem and_half (x y : Int) : bitAnd x y = 2 * bitAnd (x / 2) (y / 2) + (x % 2) * (y % 2) := by
  by_cases hx : 0 ≤ x <;> by_cases hy : 0 ≤ y
  · rw [and_pp hx hy, and_pp (x := x / 2) (y := y / 2) (by omega) (by omega), nat_and]
    have e1 : x.toNat / 2 = (x / 2).toNat := by omega
    have e2 : y.toNat / 2 = (y / 2).toNat := by omega
    rw [e1, e2]
    rcases bit01 x with h1 | h1 <;> rcases bit01 y with h2 | h2 <;> rw [h1, h2]
    all_goals
      have q1 : x.toNat % 2 = (x % 2).toNat := by omega
      have q2 : y.toNat % 2 = (y % 2).toNat := by omega
      rw [q1, q2, h1, h2]
      simp
  · have hy' : y < 0 := by omega
    rw [and_pn hx hy', and_pn (x := x / 2) (y := y / 2) (by omega) (by omega), nat_and]
    have n := not_half y
    have e1 : x.toNat / 2 = (x / 2).toNat := by omega
    have e2 : (bitNot y).toNat / 2 = (bitNot (y / 2)).toNat := by
      rw [← n.1]
      omega
    rw [e1, e2]
    have q1 : x.toNat % 2 = (x % 2).toNat := by omega
    have q2 : (bitNot y).toNat % 2 = (1 - y % 2).toNat := by
      have : 0 ≤ bitNot y := by unfold bitNot; omega
      omega
    rw [q1, q2]
    generalize ((x / 2).toNat &&& (bitNot (y / 2)).toNat) = W
    rcases bit01 x with h1 | h1 <;> rcases bit01 y with h2 | h2 <;> rw [h1, h2] <;> simp <;> omega
  · have hx' : x < 0 := by omega
    rw [and_np hx' hy, and_np (x := x / 2) (y := y / 2) (by omega) (by omega), nat_and]
    have n := not_half x
    have e1 : y.toNat / 2 = (y / 2).toNat := by omega
    have e2 : (bitNot x).toNat / 2 = (bitNot (x / 2)).toNat := by
      rw [← n.1]
      omega
    rw [e1, e2]
    have q1 : y.toNat % 2 = (y % 2).toNat := by omega
    have q2 : (bitNot x).toNat % 2 = (1 - x % 2).toNat := by
      have : 0 ≤ bitNot x := by unfold bitNot; omega
      omega
    rw [q1, q2]
    generalize ((y / 2).toNat &&& (bitNot (x / 2)).toNat) = W
    rcases bit01 x with h1 | h1 <;> rcases bit01 y with h2 | h2 <;> rw [h1, h2] <;> simp <;> omega
  · have hx' : x < 0 := by omega
    have hy' : y < 0 := by omega
    rw [and_nn hx' hy', and_nn (x := x / 2) (y := y / 2) (by omega) (by omega), nat_or]
    have n1 := not_half x
    have n2 := not_half y
    have e1 : (bitNot x).toNat / 2 = (bitNot (x / 2)).toNat := by
      rw [← n1.1]
      omega
    have e2 : (bitNot y).toNat / 2 = (bitNot (y / 2)).toNat := by
      rw [← n2.1]
      omega
    rw [e1, e2]
    have q1 : (bitNot x).toNat % 2 = (1 - x % 2).toNat := by
      have : 0 ≤ bitNot x := by unfold bitNot; omega
      omega
    have q2 : (bitNot y).toNat % 2 = (1 - y % 2).toNat := by
      have : 0 ≤ bitNot y := by unfold bitNot; omega
      omega
    rw [q1, q2]
    generalize ((bitNot (x / 2)).toNat ||| (bitNot (y / 2)).toNat) = W
    unfold bitNot
    rcases bit01 x with h1 | h1 <;> rcases bit01 y with h2 | h2 <;> rw [h1, h2] <;> simp <;> omega
theorem or_half (x y : Int) : bitOr x y = 2 * bitOr (x / 2) (y / 2) + (x % 2 + y % 2 - (x % 2) * (y % 2)) := by
  unfold bitOr
  have h := and_half (bitNot x) (bitNot y)
  have n1 := not_half x
  have n2 := not_half y
  rw [n1.1, n2.1, n1.2, n2.2] at h
  rw [h]
  generalize bitAnd (bitNot (x / 2)) (bitNot (y / 2)) = W
  unfold bitNot
  rcases bit01 x with h1 | h1 <;> rcases bit01 y with h2 | h2 <;> rw [h1, h2] <;> omega
theorem xor_half (x y : Int) : bitXor x y = 2 * bitXor (x / 2) (y / 2) + (x + y) % 2 := by
  unfold bitXor
  rw [and_half x y, or_half x y]
  generalize bitAnd (x / 2) (y / 2) = W
  generalize bitOr (x / 2) (y / 2) = Z
  rcases bit01 x with h1 | h1 <;> rcases bit01 y with h2 | h2 <;> rw [h1, h2] <;> omega
theorem xor_div (x y : Int) : bitXor x y / 2 = bitXor (x / 2) (y / 2) := by
  have := xor_half x y
  omega
theorem xor_mod (x y : Int) : bitXor x y % 2 = (x + y) % 2 := by
  have := xor_half x y
  omega
theorem and_div (x y : Int) : bitAnd x y / 2 = bitAnd (x / 2) (y / 2) := by
  have := and_half x y
  rcases bit01 x with h1 | h1 <;> rcases bit01 y with h2 | h2 <;> rw [h1, h2] at this <;> omega
theorem and_mod (x y : Int) : bitAnd x y % 2 = (x % 2) * (y % 2) := by
  have := and_half x y
  rcases bit01 x with h1 | h1 <;> rcases bit01 y with h2 | h2 <;> rw [h1, h2] at this ⊢ <;> omega
theorem and_bounds {x y : Int} (hy : 0 ≤ y) : 0 ≤ bitAnd x y ∧ bitAnd x y ≤ y := by
  by_cases hx : 0 ≤ x
  · rw [and_pp hx hy]
    have := @Nat.and_le_right x.toNat y.toNat
    omega
  · rw [and_np (by omega) hy]
    have := @Nat.and_le_left y.toNat (bitNot x).toNat
    omega
/-- two numbers on one side of nought -/
theorem xor_same {x y : Int} {N : Nat} (h : (0 ≤ x ∧ 0 ≤ y ∧ x < 2 ^ N ∧ y < 2 ^ N) ∨ (x < 0 ∧ y < 0 ∧ -(2 ^ N) ≤ x ∧ -(2 ^ N) ≤ y)) : 0 ≤ bitXor x y ∧ bitXor x y < 2 ^ N := by
  have key : ∀ a b : Nat, a < 2 ^ N → b < 2 ^ N → (0 : Int) ≤ ((a ||| b : Nat) : Int) - ((a &&& b : Nat) : Int) ∧ ((a ||| b : Nat) : Int) - ((a &&& b : Nat) : Int) < 2 ^ N := fun a b ha hb => by
    have h1 := Nat.or_lt_two_pow ha hb
    have h2 : a &&& b ≤ a := Nat.and_le_left
    have h3 : a ≤ a ||| b := Nat.left_le_or
    have h4 : ((a ||| b : Nat) : Int) < ((2 ^ N : Nat) : Int) := Int.ofNat_lt.mpr h1
    rw [Int.natCast_pow] at h4
    constructor
    · omega
    · have : ((2 : Nat) : Int) ^ N = (2 : Int) ^ N := rfl
      omega
  have nn : ∀ z : Int, bitNot (bitNot z) = z := fun z => by unfold bitNot; omega
  have c2 : ((2 ^ N : Nat) : Int) = (2 : Int) ^ N := Int.natCast_pow 2 N
  rcases h with ⟨hx, hy, bx, by'⟩ | ⟨hx, hy, bx, by'⟩
  · have e : bitXor x y = ((x.toNat ||| y.toNat : Nat) : Int) - ((x.toNat &&& y.toNat : Nat) : Int) := by
      unfold bitXor
      unfold bitOr
      rw [and_pp hx hy, and_nn (x := bitNot x) (y := bitNot y) (by unfold bitNot; omega) (by unfold bitNot; omega), nn, nn, nn]
    rw [e]
    exact key _ _ (by omega) (by omega)
  · have e : bitXor x y = (((bitNot x).toNat ||| (bitNot y).toNat : Nat) : Int) - (((bitNot x).toNat &&& (bitNot y).toNat : Nat) : Int) := by
      unfold bitXor
      unfold bitOr
      rw [and_nn hx hy, and_pp (x := bitNot x) (y := bitNot y) (by unfold bitNot; omega) (by unfold bitNot; omega)]
      generalize ((bitNot x).toNat ||| (bitNot y).toNat) = A
      generalize ((bitNot x).toNat &&& (bitNot y).toNat) = B
      unfold bitNot
      omega
    rw [e]
    have b1 : (bitNot x).toNat < 2 ^ N := by
      have : bitNot x < 2 ^ N := by unfold bitNot; omega
      omega
    have b2 : (bitNot y).toNat < 2 ^ N := by
      have : bitNot y < 2 ^ N := by unfold bitNot; omega
      omega
    exact key _ _ b1 b2
theorem xor_zero : ∀ (k : Nat) (x y : Int), x.natAbs + y.natAbs ≤ k → bitXor x y = 0 → x = y
  | 0, x, y, hk, h => by omega
  | k + 1, x, y, hk, h => by
    have h1 := xor_half x y
    rw [h] at h1
    have h2 : bitXor (x / 2) (y / 2) = 0 := by omega
    have h3 : (x + y) % 2 = 0 := by omega
    by_cases hs : (x = 0 ∨ x = -1) ∧ (y = 0 ∨ y = -1)
    · obtain ⟨a | a, b | b⟩ := hs <;> subst a <;> subst b
      · rfl
      · exact absurd h3 (by decide)
      · exact absurd h3 (by decide)
      · rfl
    · have := xor_zero k (x / 2) (y / 2) (by omega) h2
      omega
/-! ### the figures of two numbers' difference -/
def dig : Nat → Int → Int → List Int
  | 0, _, _ => []
  | L + 1, u, v => (u % 2 - v % 2) :: dig L (u / 2) (v / 2)
theorem dig_len : ∀ (L : Nat) (u v : Int), (dig L u v).length = L
  | 0, _, _ => rfl
  | L + 1, u, v => by
    show (dig L (u / 2) (v / 2)).length + 1 = L + 1
    rw [dig_len L]
theorem dig_fig : ∀ (L : Nat) (u v : Int), ∀ n ∈ dig L u v, -1 ≤ n ∧ n ≤ 1
  | 0, _, _, n, h => nomatch h
  | L + 1, u, v, n, h => by
    rcases List.mem_cons.mp h with e | e
    · omega
    · exact dig_fig L (u / 2) (v / 2) n e
theorem dig_val : ∀ (L : Nat) (u v : Int), 0 ≤ bitXor u v → bitXor u v < 2 ^ L → val (dig L u v) = u - v
  | 0, u, v, h0, h1 => by
    have : bitXor u v = 0 := by
      have e : (2 : Int) ^ 0 = 1 := rfl
      omega
    have := xor_zero _ u v (Nat.le_refl _) this
    show (0 : Int) = u - v
    omega
  | L + 1, u, v, h0, h1 => by
    have hx := xor_div u v
    have ih := dig_val L (u / 2) (v / 2) (by omega) (by rw [Int.pow_succ] at h1; omega)
    show (u % 2 - v % 2) + 2 * val (dig L (u / 2) (v / 2)) = u - v
    rw [ih]
    omega
theorem dig_last : ∀ (L : Nat) (u v : Int), 2 ^ L ≤ bitXor u v → bitXor u v < 2 ^ (L + 1) → (dig (L + 1) u v).getLast? ≠ some 0
  | 0, u, v, h0, h1 => by
    have e : bitXor u v = 1 := by
      have e0 : (2 : Int) ^ 0 = 1 := rfl
      have e1 : (2 : Int) ^ 1 = 2 := rfl
      omega
    have := xor_mod u v
    rw [e] at this
    show ([u % 2 - v % 2] : List Int).getLast? ≠ some 0
    simp
    omega
  | L + 1, u, v, h0, h1 => by
    have hx := xor_div u v
    have ih := dig_last L (u / 2) (v / 2) (by rw [Int.pow_succ] at h0; omega) (by rw [Int.pow_succ] at h1; omega)
    show ((u % 2 - v % 2) :: dig (L + 1) (u / 2) (v / 2)).getLast? ≠ some 0
    have e : dig (L + 1) (u / 2) (v / 2) = (u / 2 % 2 - v / 2 % 2) :: dig L (u / 2 / 2) (v / 2 / 2) := rfl
    rw [e, List.getLast?_cons_cons, ← e]
    exact ih
end FG

set_option maxHeartbeats 4000000
namespace FG
open PySem PyProof.Rows L2
open PySem.Builtin (bitAnd bitOr bitXor bitNot)
theorem gaps_cons {x : Int} {l : List Int} (h1 : x = 0 ∨ l.head? = some 0 ∨ l = []) (h2 : gaps l = true) : gaps (x :: l) = true := by
  match l, h1, h2 with
  | [], _, _ => rfl
  | y :: r, h1, h2 =>
    show ((decide (x = 0) || decide (y = 0)) && gaps (y :: r)) = true
    rw [h2]
    rcases h1 with h | h | h
    · simp [h]
    · simp at h
      simp [h]
    · exact nomatch h
theorem dig_gaps : ∀ (L : Nat) (u v e : Int), u = 3 * v + e → 0 ≤ e → e ≤ 2 → gaps (dig L u v) = true ∧ (e ≠ 1 → (dig L u v).head? = some 0 ∨ dig L u v = [])
  | 0, _, _, _, _, _, _ => ⟨rfl, fun _ => .inr rfl⟩
  | L + 1, u, v, e, he, h0, h2 => by
    have ih := dig_gaps L (u / 2) (v / 2) ((3 * (v % 2) + e) / 2) (by omega) (by omega) (by omega)
    constructor
    · show gaps ((u % 2 - v % 2) :: dig L (u / 2) (v / 2)) = true
      refine gaps_cons ?_ ih.1
      by_cases h1 : e = 1
      · exact .inr (ih.2 (by omega))
      · exact .inl (by omega)
    · intro h1
      refine .inl ?_
      show some (u % 2 - v % 2) = some 0
      congr 1
      omega
/-! ### a lean row is the only one of its worth -/
theorem val_ne : ∀ r : List Int, (∀ n ∈ r, -1 ≤ n ∧ n ≤ 1) → r.getLast? ≠ some 0 → r ≠ [] → val r ≠ 0
  | [], _, _, h => absurd rfl h
  | [d], _, h, _ => by
    show d + 2 * 0 ≠ 0
    have : d ≠ 0 := fun e => h (by rw [e]; rfl)
    omega
  | d :: x :: t, hb, h, _ => by
    have ih := val_ne (x :: t) (fun n hn => hb n (List.mem_cons_of_mem _ hn)) (by rw [List.getLast?_cons_cons] at h; exact h) (by simp)
    have hd := hb d List.mem_cons_self
    show d + 2 * val (x :: t) ≠ 0
    omega
theorem gaps_tail {x : Int} {l : List Int} (h : gaps (x :: l) = true) : gaps l = true := by
  match l, h with
  | [], _ => rfl
  | y :: r, h =>
    have h' : ((decide (x = 0) || decide (y = 0)) && gaps (y :: r)) = true := h
    exact (Bool.and_eq_true_iff.mp h').2
theorem row_tail {x : Int} {l : List Int} (r : Row (x :: l)) : Row l := by
  refine ⟨fun n hn => r.1 n (List.mem_cons_of_mem _ hn), ?_⟩
  match l, r with
  | [], _ => exact fun z => nomatch z
  | y :: t, r =>
    have := r.2
    rw [List.getLast?_cons_cons] at this
    exact this
theorem odd_next {x : Int} {l : List Int} (h : gaps (x :: l) = true) (hx : x ≠ 0) : val l % 2 = 0 := by
  match l, h with
  | [], _ => rfl
  | y :: r, h =>
    have h' : ((decide (x = 0) || decide (y = 0)) && gaps (y :: r)) = true := h
    have h1 := (Bool.and_eq_true_iff.mp h').1
    have hy : y = 0 := by simpa [hx] using h1
    show (y + 2 * val r) % 2 = 0
    omega
theorem lean_only : ∀ (r t : List Int), Row r → Row t → gaps r = true → gaps t = true → val r = val t → r = t
  | [], [], _, _, _, _, _ => rfl
  | [], y :: t, _, ht, _, _, e => absurd e.symm (val_ne (y :: t) ht.1 ht.2 (by simp))
  | x :: r, [], hr, _, _, _, e => absurd e (val_ne (x :: r) hr.1 hr.2 (by simp))
  | x :: r, y :: t, hr, ht, gr, gt, e => by
    have hx := hr.1 x List.mem_cons_self
    have hy := ht.1 y List.mem_cons_self
    have e' : x + 2 * val r = y + 2 * val t := e
    have same : x = y := by
      by_cases x0 : x = 0
      · omega
      · by_cases y0 : y = 0
        · omega
        · have o1 := odd_next gr x0
          have o2 := odd_next gt y0
          omega
    subst same
    have ih := lean_only r t (row_tail hr) (row_tail ht) (gaps_tail gr) (gaps_tail gt) (by omega)
    rw [ih]
/-! ### the places of a number as a text -/
def bitsLE : Nat → Nat → List Nat
  | 0, _ => []
  | L + 1, x => (x % 2 + 48) :: bitsLE L (x / 2)
theorem bitsLE_len : ∀ (L x : Nat), (bitsLE L x).length = L
  | 0, _ => rfl
  | L + 1, x => congrArg (· + 1) (bitsLE_len L (x / 2))
theorem bitsLE_zero : ∀ L : Nat, bitsLE L 0 = List.replicate L 48
  | 0 => rfl
  | L + 1 => by
    show (0 % 2 + 48) :: bitsLE L (0 / 2) = _
    rw [Nat.zero_div, bitsLE_zero L]
    rfl
def digs (x : Nat) : List Nat := ((Nat.toDigits 2 x).map Char.toNat).reverse
theorem digs_small {x : Nat} (h : x < 2) : digs x = [x + 48] := by
  unfold digs
  rw [Nat.toDigits_of_lt_base h]
  have c : x = 0 ∨ x = 1 := by omega
  rcases c with e | e <;> subst e <;> rfl
theorem digs_step {x : Nat} (h : 2 ≤ x) : digs x = (x % 2 + 48) :: digs (x / 2) := by
  have e := @Nat.toDigits_append_toDigits 2 (x / 2) (x % 2) (by decide) (by omega) (by omega)
  have e2 : 2 * (x / 2) + x % 2 = x := by omega
  rw [e2] at e
  have e3 := digs_small (x := x % 2) (by omega)
  unfold digs at e3 ⊢
  rw [← e, List.map_append, List.reverse_append, e3]
  rfl
theorem digs_bits : ∀ (L x : Nat), x < 2 ^ (L + 1) → (digs x).length ≤ L + 1 ∧ digs x ++ List.replicate (L + 1 - (digs x).length) 48 = bitsLE (L + 1) x
  | 0, x, h => by
    have hx : x < 2 := by simpa using h
    rw [digs_small hx]
    refine ⟨Nat.le_refl _, ?_⟩
    show [x + 48] ++ [] = [x % 2 + 48]
    rw [List.append_nil, Nat.mod_eq_of_lt hx]
  | L + 1, x, h => by
    by_cases hx : x < 2
    · rw [digs_small hx]
      refine ⟨by simp, ?_⟩
      show (x + 48) :: List.replicate (L + 1 + 1 - 1) 48 = (x % 2 + 48) :: bitsLE (L + 1) (x / 2)
      have e : x / 2 = 0 := by omega
      rw [e, bitsLE_zero, Nat.mod_eq_of_lt hx]
      rfl
    · have h2 : 2 ≤ x := by omega
      have ih := digs_bits L (x / 2) (by rw [Nat.pow_succ] at h; omega)
      rw [digs_step h2]
      refine ⟨by simp only [List.length_cons]; omega, ?_⟩
      show (x % 2 + 48) :: (digs (x / 2) ++ List.replicate (L + 1 + 1 - ((digs (x / 2)).length + 1)) 48) = (x % 2 + 48) :: bitsLE (L + 1) (x / 2)
      have e : L + 1 + 1 - ((digs (x / 2)).length + 1) = L + 1 - (digs (x / 2)).length := by omega
      rw [e, ih.2]
theorem binText_list (x : Nat) : (XB.binText (x : Int)).cps.toList = (digs x).reverse := by
  unfold XB.binText XB.binSigns digs
  have h : decide (((x : Nat) : Int) < 0) = false := decide_eq_false (by omega)
  rw [h]
  simp
theorem binText_len (x : Nat) : (XB.binText (x : Int)).length = (digs x).length := by
  have := congrArg List.length (binText_list x)
  rw [Array.length_toList, List.length_reverse] at this
  exact this
theorem digs_head (x : Nat) : ∀ c ∈ digs x, c = 48 ∨ c = 49 := by
  induction x using Nat.strongRecOn with
  | _ x ih =>
    intro c hc
    by_cases hx : x < 2
    · rw [digs_small hx] at hc
      have := List.mem_singleton.mp hc
      omega
    · rw [digs_step (by omega)] at hc
      rcases List.mem_cons.mp hc with e | e
      · omega
      · exact ih (x / 2) (by omega) c e
/-- filled up with 0 and turned round: the places, the lowest first -/
theorem filled {L x : Nat} (h : x < 2 ^ (L + 1)) : (Txt.zfill (XB.binText (x : Int)) ((L + 1 : Nat) : Int)).cps.toList.reverse = bitsLE (L + 1) x := by
  obtain ⟨h1, h2⟩ := digs_bits L x h
  have el := binText_len x
  unfold Txt.zfill
  by_cases hc : ((L + 1 : Nat) : Int) ≤ ((XB.binText (x : Int)).length : Int)
  · rw [if_pos hc, binText_list, List.reverse_reverse, ← h2]
    have : L + 1 - (digs x).length = 0 := by omega
    rw [this]
    simp
  · rw [if_neg hc]
    have first : ∀ c, (XB.binText (x : Int)).cps[0]? = some c → c = 48 ∨ c = 49 := fun c hc => by
      have : c ∈ (XB.binText (x : Int)).cps.toList := by
        rw [← Array.getElem?_toList] at hc
        exact List.mem_of_getElem? hc
      rw [binText_list] at this
      exact digs_head x c (List.mem_reverse.mp this)
    have eP : zfilled (XB.binText (x : Int)) ((((L + 1 : Nat) : Int)).toNat - (XB.binText (x : Int)).length) = Builtin.Str.padded (XB.binText (x : Int)) ((((L + 1 : Nat) : Int)).toNat - (XB.binText (x : Int)).length) 0 48 := by
      unfold zfilled
      split
      · rename_i e
        have := first _ e
        omega
      · rename_i e
        have := first _ e
        omega
      · rfl
    rw [eP, el, Int.toNat_natCast, ← h2]
    have eq : (Builtin.Str.padded (XB.binText (x : Int)) (L + 1 - (digs x).length) 0 48).cps.toList = List.replicate (L + 1 - (digs x).length) 48 ++ (XB.binText (x : Int)).cps.toList := by
      unfold Builtin.Str.padded
      simp
    rw [eq, List.reverse_append, binText_list, List.reverse_reverse]
    simp
/-- the two texts' figures, one taken from the other -/
theorem bits_dig : ∀ (L : Nat) (u v : Int), 0 ≤ bitXor u v →
    List.zipWith (fun a b : Nat => (a : Int) - (b : Int)) (bitsLE L (bitAnd u (bitXor u v)).toNat) (bitsLE L (bitAnd v (bitXor u v)).toNat) = dig L u v
  | 0, _, _, _ => rfl
  | L + 1, u, v, h => by
    have hx := xor_div u v
    have hm := xor_mod u v
    have ih := bits_dig L (u / 2) (v / 2) (by omega)
    have a1 := and_bounds (x := u) h
    have b1 := and_bounds (x := v) h
    have a2 := and_div u (bitXor u v)
    have b2 := and_div v (bitXor u v)
    have a3 := and_mod u (bitXor u v)
    have b3 := and_mod v (bitXor u v)
    rw [hx] at a2 b2
    rw [hm] at a3 b3
    have e1 : (bitAnd u (bitXor u v)).toNat / 2 = (bitAnd (u / 2) (bitXor (u / 2) (v / 2))).toNat := by omega
    have e2 : (bitAnd v (bitXor u v)).toNat / 2 = (bitAnd (v / 2) (bitXor (u / 2) (v / 2))).toNat := by omega
    show ((((bitAnd u (bitXor u v)).toNat % 2 + 48 : Nat) : Int) - (((bitAnd v (bitXor u v)).toNat % 2 + 48 : Nat) : Int)) :: List.zipWith _ (bitsLE L ((bitAnd u (bitXor u v)).toNat / 2)) (bitsLE L ((bitAnd v (bitXor u v)).toNat / 2)) = (u % 2 - v % 2) :: dig L (u / 2) (v / 2)
    rw [e1, e2, ih]
    congr 1
    have c1 : (((bitAnd u (bitXor u v)).toNat % 2 : Nat) : Int) = bitAnd u (bitXor u v) % 2 := by omega
    have c2 : (((bitAnd v (bitXor u v)).toNat % 2 : Nat) : Int) = bitAnd v (bitXor u v) % 2 := by omega
    have c3 : ((((bitAnd u (bitXor u v)).toNat % 2 + 48 : Nat) : Int) - (((bitAnd v (bitXor u v)).toNat % 2 + 48 : Nat) : Int)) = bitAnd u (bitXor u v) % 2 - bitAnd v (bitXor u v) % 2 := by omega
    rw [c3, a3, b3]
    rcases bit01 u with p | p <;> rcases bit01 v with q | q
    all_goals
      have z : (u + v) % 2 = (u % 2 + v % 2) % 2 := by omega
      rw [z, p, q]
      rfl
theorem bitsLE_get : ∀ (L x i : Nat), i < L → ∃ c, (bitsLE L x)[i]? = some c ∧ (c = 48 ∨ c = 49)
  | 0, _, _, h => absurd h (Nat.not_lt_zero _)
  | L + 1, x, 0, _ => ⟨x % 2 + 48, rfl, by omega⟩
  | L + 1, x, i + 1, h => bitsLE_get L (x / 2) i (by omega)
/-- what lean's numbers are: the parts of three halves -/
theorem lean_facts {n : Int} {N : Nat} (h : n.natAbs < 2 ^ N) : 0 ≤ bitXor (n + n / 2) (n / 2) ∧ bitXor (n + n / 2) (n / 2) < 2 ^ (N + 1) := by
  refine xor_same ?_
  have e : (2 : Int) ^ (N + 1) = 2 * 2 ^ N := by rw [Int.pow_succ, Int.mul_comm]
  have c : ((2 ^ N : Nat) : Int) = (2 : Int) ^ N := Int.natCast_pow 2 N
  rw [e]
  by_cases h0 : 0 ≤ n
  · exact .inl ⟨by omega, by omega, by omega, by omega⟩
  · exact .inr ⟨by omega, by omega, by omega, by omega⟩
/-- the row that lean tells -/
theorem lean_row {n : Int} (hn : n ≠ 0) {N : Nat} (h : n.natAbs < 2 ^ N) :
    ∃ L, Builtin.Int.intBits (bitXor (n + n / 2) (n / 2)) = L + 1 ∧ L + 1 ≤ N + 1 ∧ (bitAnd (n + n / 2) (bitXor (n + n / 2) (n / 2))).toNat < 2 ^ (L + 1) ∧ (bitAnd (n / 2) (bitXor (n + n / 2) (n / 2))).toNat < 2 ^ (L + 1) ∧
      Row (dig (L + 1) (n + n / 2) (n / 2)) ∧ gaps (dig (L + 1) (n + n / 2) (n / 2)) = true ∧ val (dig (L + 1) (n + n / 2) (n / 2)) = n := by
  obtain ⟨x0, x1⟩ := lean_facts h
  have xn : bitXor (n + n / 2) (n / 2) ≠ 0 := fun e => by
    have := xor_zero _ _ _ (Nat.le_refl _) e
    omega
  generalize hX : bitXor (n + n / 2) (n / 2) = X at x0 x1 xn
  have hb : Builtin.Int.intBits X = X.natAbs.log2 + 1 := by
    unfold Builtin.Int.intBits
    rw [if_neg (by simpa using xn)]
  have hx' : X.natAbs ≠ 0 := by omega
  have l1 := Nat.log2_self_le hx'
  have l2 : X.natAbs < 2 ^ (X.natAbs.log2 + 1) := (Nat.log2_lt hx').mp (Nat.lt_succ_self _)
  have l3 : X.natAbs.log2 < N + 1 := by
    refine (Nat.log2_lt hx').mpr ?_
    have c : ((2 ^ (N + 1) : Nat) : Int) = (2 : Int) ^ (N + 1) := Int.natCast_pow 2 (N + 1)
    omega
  generalize X.natAbs.log2 = L at hb l1 l2 l3
  have c1 : ((2 ^ L : Nat) : Int) = (2 : Int) ^ L := Int.natCast_pow 2 L
  have c2 : ((2 ^ (L + 1) : Nat) : Int) = (2 : Int) ^ (L + 1) := Int.natCast_pow 2 (L + 1)
  have a1 := and_bounds (x := n + n / 2) (y := X) x0
  have b1 := and_bounds (x := n / 2) (y := X) x0
  refine ⟨L, hb, by omega, by omega, by omega, ⟨dig_fig _ _ _, ?_⟩, ?_, ?_⟩
  · exact dig_last L _ _ (by rw [hX]; omega) (by rw [hX]; omega)
  · exact (dig_gaps (L + 1) (n + n / 2) (n / 2) (n % 2) (by omega) (by omega) (by omega)).1
  · rw [dig_val (L + 1) _ _ (by rw [hX]; exact x0) (by rw [hX]; omega)]
    omega
end FG

set_option maxHeartbeats 4000000
/-! the two numbers that have the places of a lean row's 1 and -1. -/
namespace XParts
open PySem PyProof.Rows L2 FG
open PySem.Builtin (bitAnd bitOr bitXor bitNot)
theorem none_back {H H' : Hp} {p : Addr} (s : Same H H') (h : H' p = none) : H p = none := by
  cases e : H p with
  | none => rfl
  | some o => exact absurd ((s p o e).symm.trans h) (by simp)
/-! ### the two parts of a difference -/
theorem parts_half (u v : Int) (h : 0 ≤ bitXor u v) : bitAnd u (bitXor u v) / 2 = bitAnd (u / 2) (bitXor (u / 2) (v / 2)) ∧ bitAnd v (bitXor u v) / 2 = bitAnd (v / 2) (bitXor (u / 2) (v / 2)) ∧
    bitAnd u (bitXor u v) % 2 = (u % 2) * ((u + v) % 2) ∧ bitAnd v (bitXor u v) % 2 = (v % 2) * ((u + v) % 2) := by
  have hx := xor_div u v
  have hm := xor_mod u v
  have a2 := and_div u (bitXor u v)
  have b2 := and_div v (bitXor u v)
  have a3 := and_mod u (bitXor u v)
  have b3 := and_mod v (bitXor u v)
  rw [hx] at a2 b2
  rw [hm] at a3 b3
  exact ⟨a2, b2, a3, b3⟩
theorem bits_two (u v : Int) : (u % 2) * ((u + v) % 2) + (v % 2) * ((u + v) % 2) = (u + v) % 2 := by
  have z : (u + v) % 2 = (u % 2 + v % 2) % 2 := by omega
  rw [z]
  rcases bit01 u with p | p <;> rcases bit01 v with q | q <;> rw [p, q] <;> rfl
/-- together they are all places that are unlike -/
theorem parts_sum : ∀ (L : Nat) (u v : Int), 0 ≤ bitXor u v → bitXor u v < 2 ^ L → bitAnd u (bitXor u v) + bitAnd v (bitXor u v) = bitXor u v
  | 0, u, v, h0, h1 => by
    have e : bitXor u v = 0 := by
      have e0 : (2 : Int) ^ 0 = 1 := rfl
      omega
    have a1 := and_bounds (x := u) h0
    have b1 := and_bounds (x := v) h0
    omega
  | L + 1, u, v, h0, h1 => by
    have hx := xor_div u v
    have hm := xor_mod u v
    have ih := parts_sum L (u / 2) (v / 2) (by omega) (by rw [Int.pow_succ] at h1; omega)
    obtain ⟨a, b, c, d⟩ := parts_half u v h0
    have t := bits_two u v
    generalize bitAnd (u / 2) (bitXor (u / 2) (v / 2)) = A at *
    generalize bitAnd (v / 2) (bitXor (u / 2) (v / 2)) = B at *
    generalize (u % 2) * ((u + v) % 2) = C at *
    generalize (v % 2) * ((u + v) % 2) = E at *
    omega
/-- the topmost place is in one of them -/
theorem parts_top : ∀ (L : Nat) (u v : Int), 2 ^ L ≤ bitXor u v → bitXor u v < 2 ^ (L + 1) → 2 ^ L ≤ bitAnd u (bitXor u v) ∨ 2 ^ L ≤ bitAnd v (bitXor u v)
  | 0, u, v, h0, h1 => by
    have e0 : (2 : Int) ^ 0 = 1 := rfl
    have e1 : (2 : Int) ^ 1 = 2 := rfl
    have h := parts_sum 1 u v (by omega) (by omega)
    have a1 := and_bounds (x := u) (y := bitXor u v) (by omega)
    have b1 := and_bounds (x := v) (y := bitXor u v) (by omega)
    omega
  | L + 1, u, v, h0, h1 => by
    have hx := xor_div u v
    have e1 : (2 : Int) ^ (L + 1) = 2 * 2 ^ L := by rw [Int.pow_succ, Int.mul_comm]
    have e2 : (2 : Int) ^ (L + 1 + 1) = 2 * 2 ^ (L + 1) := by rw [Int.pow_succ, Int.mul_comm]
    have p0 : (0 : Int) < 2 ^ L := Int.pow_pos (by omega)
    obtain ⟨a, b, _, _⟩ := parts_half u v (by omega)
    have ih := parts_top L (u / 2) (v / 2) (by omega) (by omega)
    rcases ih with h | h
    · exact .inl (by omega)
    · exact .inr (by omega)
/-- the greater of the two has just so many places -/
theorem bits_top {L : Nat} {x : Int} (h0 : 2 ^ L ≤ x) (h1 : x < 2 ^ (L + 1)) : Builtin.Int.intBits x = L + 1 := by
  have p0 : (0 : Int) < 2 ^ L := Int.pow_pos (by omega)
  have hb : Builtin.Int.intBits x = x.natAbs.log2 + 1 := by
    unfold Builtin.Int.intBits
    rw [if_neg (by simp; omega)]
  have hx' : x.natAbs ≠ 0 := by omega
  have c1 : ((2 ^ L : Nat) : Int) = (2 : Int) ^ L := Int.natCast_pow 2 L
  have c2 : ((2 ^ (L + 1) : Nat) : Int) = (2 : Int) ^ (L + 1) := Int.natCast_pow 2 (L + 1)
  have e : x.natAbs.log2 = L := (Nat.log2_eq_iff hx').mpr ⟨by omega, by omega⟩
  omega
/-- the row that lean tells, its parts and how many places the greater part has -/
theorem parts_row {n : Int} (hn : n ≠ 0) {N : Nat} (h : n.natAbs < 2 ^ N) :
    ∃ L, Builtin.Int.intBits (if bitAnd (n / 2) (bitXor (n + n / 2) (n / 2)) > bitAnd (n + n / 2) (bitXor (n + n / 2) (n / 2)) then bitAnd (n / 2) (bitXor (n + n / 2) (n / 2)) else bitAnd (n + n / 2) (bitXor (n + n / 2) (n / 2))) = L + 1 ∧ L + 1 ≤ N + 1 ∧ (bitAnd (n + n / 2) (bitXor (n + n / 2) (n / 2))).toNat < 2 ^ (L + 1) ∧ (bitAnd (n / 2) (bitXor (n + n / 2) (n / 2))).toNat < 2 ^ (L + 1) ∧
      Row (dig (L + 1) (n + n / 2) (n / 2)) ∧ gaps (dig (L + 1) (n + n / 2) (n / 2)) = true ∧ val (dig (L + 1) (n + n / 2) (n / 2)) = n := by
  obtain ⟨L, hb, hL, ha, hd, rr, rg, rv⟩ := lean_row hn h
  obtain ⟨x0, x1⟩ := lean_facts h
  have xn : bitXor (n + n / 2) (n / 2) ≠ 0 := fun e => by
    have := xor_zero _ _ _ (Nat.le_refl _) e
    omega
  have hb2 : Builtin.Int.intBits (bitXor (n + n / 2) (n / 2)) = (bitXor (n + n / 2) (n / 2)).natAbs.log2 + 1 := by
    unfold Builtin.Int.intBits
    rw [if_neg (by simpa using xn)]
  have hx' : (bitXor (n + n / 2) (n / 2)).natAbs ≠ 0 := by omega
  have l1 := Nat.log2_self_le hx'
  have l2 : (bitXor (n + n / 2) (n / 2)).natAbs < 2 ^ ((bitXor (n + n / 2) (n / 2)).natAbs.log2 + 1) := (Nat.log2_lt hx').mp (Nat.lt_succ_self _)
  have el : (bitXor (n + n / 2) (n / 2)).natAbs.log2 = L := by omega
  rw [el] at l1 l2
  have c1 : ((2 ^ L : Nat) : Int) = (2 : Int) ^ L := Int.natCast_pow 2 L
  have c2 : ((2 ^ (L + 1) : Nat) : Int) = (2 : Int) ^ (L + 1) := Int.natCast_pow 2 (L + 1)
  have tp := parts_top L (n + n / 2) (n / 2) (by omega) (by omega)
  have a1 := and_bounds (x := n + n / 2) x0
  have b1 := and_bounds (x := n / 2) x0
  refine ⟨L, ?_, hL, ha, hd, rr, rg, rv⟩
  split
  · exact bits_top (by omega) (by omega)
  · exact bits_top (by omega) (by omega)
end XParts

set_option maxHeartbeats 4000000
namespace FG
open PySem PyProof.Rows L2
theorem gaps_mid : ∀ (a : List Int) {b : List Int}, gaps a = true → gaps (0 :: b) = true → gaps (a ++ 0 :: b) = true
  | [], _, _, h => h
  | [x], b, _, h => gaps_cons (.inr (.inl rfl)) h
  | x :: y :: r, b, ha, h => by
    have ha' : ((decide (x = 0) || decide (y = 0)) && gaps (y :: r)) = true := ha
    obtain ⟨h1, h2⟩ := Bool.and_eq_true_iff.mp ha'
    have ih := gaps_mid (y :: r) h2 h
    show ((decide (x = 0) || decide (y = 0)) && gaps ((y :: r) ++ 0 :: b)) = true
    rw [h1, ih]
    rfl
/-- rows of 0 alone ahead of a row -/
theorem gaps_zeros : ∀ (g : Nat) {b : List Int}, gaps b = true → gaps (List.replicate g 0 ++ b) = true
  | 0, _, h => h
  | g + 1, b, h => by
    rw [List.replicate_succ, List.cons_append]
    exact gaps_cons (.inl rfl) (gaps_zeros g h)
theorem gaps_left : ∀ (a : List Int) {b : List Int}, gaps (a ++ b) = true → gaps a = true
  | [], _, _ => rfl
  | [x], _, _ => rfl
  | x :: y :: r, b, h => by
    have h' : ((decide (x = 0) || decide (y = 0)) && gaps ((y :: r) ++ b)) = true := h
    obtain ⟨h1, h2⟩ := Bool.and_eq_true_iff.mp h'
    show ((decide (x = 0) || decide (y = 0)) && gaps (y :: r)) = true
    rw [h1, gaps_left (y :: r) h2]
    rfl
theorem gaps_right : ∀ (a : List Int) {b : List Int}, gaps (a ++ b) = true → gaps b = true
  | [], _, h => h
  | x :: r, b, h => gaps_right r (gaps_tail h)
/-- another head in a row's place -/
theorem gaps_swap {a : List Int} {r s : Int} {b : List Int} (h : gaps (a ++ r :: b) = true) (hr : r ≠ 0) : gaps (a ++ s :: b) = true := by
  have hb : b.head? = some 0 ∨ b = [] := by
    have h1 := gaps_right a h
    match b, h1 with
    | [], _ => exact .inr rfl
    | y :: t, h1 =>
      have h' : ((decide (r = 0) || decide (y = 0)) && gaps (y :: t)) = true := h1
      have h2 := (Bool.and_eq_true_iff.mp h').1
      have hy : y = 0 := by simpa [hr] using h2
      exact .inl (by rw [hy]; rfl)
  have hs : gaps (s :: b) = true := by
    refine gaps_cons ?_ (gaps_tail (gaps_right a h))
    rcases hb with h | h
    · exact .inr (.inl h)
    · exact .inr (.inr h)
  -- the figure ahead of r is 0
  induction a with
  | nil => exact hs
  | cons x t ih =>
    have ht := ih (gaps_tail h)
    match t, h, ht with
    | [], h, ht =>
      have h' : ((decide (x = 0) || decide (r = 0)) && gaps (r :: b)) = true := h
      have h2 := (Bool.and_eq_true_iff.mp h').1
      have hx : x = 0 := by simpa [hr] using h2
      exact gaps_cons (.inl hx) ht
    | y :: u, h, ht =>
      have h' : ((decide (x = 0) || decide (y = 0)) && gaps ((y :: u) ++ r :: b)) = true := h
      have h2 := (Bool.and_eq_true_iff.mp h').1
      show ((decide (x = 0) || decide (y = 0)) && gaps ((y :: u) ++ s :: b)) = true
      rw [h2, ht]
      rfl
theorem gaps_behind {r : Int} {b : List Int} (h : gaps (r :: b) = true) (hr : r ≠ 0) : b.head? = some 0 ∨ b = [] := by
  match b, h with
  | [], _ => exact .inr rfl
  | y :: t, h =>
    have h' : ((decide (r = 0) || decide (y = 0)) && gaps (y :: t)) = true := h
    have h2 := (Bool.and_eq_true_iff.mp h').1
    have hy : y = 0 := by simpa [hr] using h2
    exact .inl (by rw [hy]; rfl)
/-- a row's figure moved up by a place -/
theorem gaps_move {a : List Int} {r : Int} {b : List Int} (h : gaps (a ++ r :: b) = true) (hr : r ≠ 0) : gaps (a ++ 0 :: r :: b) = true := by
  have h1 := gaps_right a h
  exact gaps_mid a (gaps_left a h) (gaps_cons (.inl rfl) h1)
/-- the row without the 0 at its end -/
def strip (l : List Int) : List Int := if l.getLast? = some 0 then strip l.dropLast else l
termination_by l.length
decreasing_by
  rename_i h
  cases l with
  | nil => exact nomatch h
  | cons x t => simp
theorem val_snoc0 (l : List Int) : val (l ++ [0]) = val l := by
  rw [val_append]
  show val l + 2 ^ l.length * (0 + 2 * 0) = val l
  simp
theorem last_split {l : List Int} {x : Int} (h : l.getLast? = some x) : l = l.dropLast ++ [x] := by
  cases l with
  | nil => exact nomatch h
  | cons y t =>
    have e := List.getLast?_eq_getLast (List.cons_ne_nil y t)
    rw [e] at h
    have h' := Option.some.inj h
    rw [← h']
    exact (List.dropLast_concat_getLast _).symm
theorem val_abs : ∀ l : List Int, (∀ n ∈ l, -1 ≤ n ∧ n ≤ 1) → (val l).natAbs < 2 ^ l.length
  | [], _ => by decide
  | n :: r, h => by
    have ih := val_abs r fun m hm => h m (List.mem_cons_of_mem _ hm)
    have hn := h n List.mem_cons_self
    show (n + 2 * val r).natAbs < 2 ^ (r.length + 1)
    rw [Nat.pow_succ]
    omega
theorem row_drop1 {l : List Int} (h1 : ∀ n ∈ l, -1 ≤ n ∧ n ≤ 1) (h2 : l.getLast? ≠ some 0) : Row (l.drop 1) := by
  cases l with
  | nil => exact ⟨fun n hn => (nomatch hn), fun z => (nomatch z)⟩
  | cons x t => exact row_tail ⟨h1, h2⟩
theorem ne_neg {A B : List Int} {r : Int} (hr : r = 1 ∨ r = -1) : val (A ++ (0 - r) :: B) ≠ val (A ++ r :: B) := by
  rw [val_append, val_append]
  have p : (0 : Int) < 2 ^ A.length := Int.pow_pos (by decide)
  show val A + 2 ^ A.length * (0 - r + 2 * val B) ≠ val A + 2 ^ A.length * (r + 2 * val B)
  intro e
  have e2 : (2 : Int) ^ A.length * (0 - r + 2 * val B) = 2 ^ A.length * (r + 2 * val B) := by omega
  have e3 := Int.eq_of_mul_eq_mul_left (by omega) e2
  omega
theorem ne_out {A B : List Int} {r : Int} (hr : r = 1 ∨ r = -1) : val (A ++ 0 :: B) ≠ val (A ++ r :: B) := by
  rw [val_append, val_append]
  have p : (0 : Int) < 2 ^ A.length := Int.pow_pos (by decide)
  show val A + 2 ^ A.length * (0 + 2 * val B) ≠ val A + 2 ^ A.length * (r + 2 * val B)
  intro e
  have e2 : (2 : Int) ^ A.length * (0 + 2 * val B) = 2 ^ A.length * (r + 2 * val B) := by omega
  have e3 := Int.eq_of_mul_eq_mul_left (by omega) e2
  omega
theorem ne_move {A B : List Int} {r : Int} (hr : r = 1 ∨ r = -1) : val (A ++ 0 :: r :: B) ≠ val (A ++ r :: B) := by
  rw [val_append, val_append]
  have p : (0 : Int) < 2 ^ A.length := Int.pow_pos (by decide)
  show val A + 2 ^ A.length * (0 + 2 * (r + 2 * val B)) ≠ val A + 2 ^ A.length * (r + 2 * val B)
  intro e
  have e2 : (2 : Int) ^ A.length * (0 + 2 * (r + 2 * val B)) = 2 ^ A.length * (r + 2 * val B) := by omega
  have e3 := Int.eq_of_mul_eq_mul_left (by omega) e2
  omega
theorem rep_zero : ∀ g : Nat, (List.replicate g [V.int 0]).flatten = (List.replicate g (0 : Int)).map V.int
  | 0 => rfl
  | g + 1 => by
    rw [List.replicate_succ, List.flatten_cons, rep_zero g, List.replicate_succ, List.map_cons]
    rfl
/-- slices of rows -/
theorem cut_from (ns : List Int) (k : Nat) : cutV (ns.map V.int) (some (k : Int)) none = (ns.drop k).map V.int := by
  unfold cutV
  rw [HT.sIx_nat, HT.sIx_none, List.map_drop]
  by_cases h : k ≤ (ns.map V.int).length
  · rw [Nat.min_eq_left h]
    apply List.take_of_length_le
    rw [List.length_drop]
    exact Nat.le_refl _
  · have h' : (ns.map V.int).length ≤ k := by omega
    rw [Nat.min_eq_right h', List.drop_eq_nil_of_le h', List.drop_eq_nil_of_le (Nat.le_refl _)]
    simp
theorem cut_to (ns : List Int) (k : Nat) : cutV (ns.map V.int) none (some (k : Int)) = (ns.take k).map V.int := by
  unfold cutV
  rw [HT.sIx_nat, HT.sIx_none, List.map_take]
  show List.take (min k (ns.map V.int).length - 0) (List.drop 0 (ns.map V.int)) = _
  rw [Nat.sub_zero, List.drop_zero]
  by_cases h : k ≤ (ns.map V.int).length
  · rw [Nat.min_eq_left h]
  · have h' : (ns.map V.int).length ≤ k := by omega
    rw [Nat.min_eq_right h', List.take_length, List.take_of_length_le h']
theorem cut_but (ns : List Int) : cutV (ns.map V.int) none (some (-1)) = ns.dropLast.map V.int := by
  have e : HT.sIx (ns.map V.int).length (ns.map V.int).length (some (-1)) = ns.length - 1 := by
    show (if (-1 : Int) < 0 then ((-1 : Int) + ((ns.map V.int).length : Int)).toNat else min (-1 : Int).toNat (ns.map V.int).length) = _
    rw [if_pos (by decide), List.length_map]
    show ((-1 : Int) + (ns.length : Int)).toNat = ns.length - 1
    omega
  unfold cutV
  rw [e, HT.sIx_none]
  show List.take (ns.length - 1 - 0) (List.drop 0 (ns.map V.int)) = _
  rw [Nat.sub_zero, List.drop_zero, ← List.map_take, List.dropLast_eq_take]
theorem drop_last_one {ns : List Int} : (ns.drop (ns.length - 1) = [0]) ↔ ns.getLast? = some 0 := by
  constructor
  · intro e
    rw [List.getLast?_eq_getElem?]
    have z := congrArg (fun l => l[0]?) e
    simp only [List.getElem?_drop] at z
    simpa using z
  · intro e
    have s := last_split e
    rw [s]
    simp
end FG

set_option maxHeartbeats 4000000
/-! lists and pairs of lists of whole numbers, as data; many rows at many places -/
namespace FG
open PySem PySem.Spec PyProof.Rows L2
theorem dI_depth (ns : List Int) : PyData.depth (dI ns) ≤ 2 := by
  have := dI_depthAll ns
  simp only [dI, PyData.depth]
  omega
theorem dLs_depth : ∀ rs : List (List Int), PyData.depthAll (rs.map dI) ≤ 2
  | [] => by simp [PyData.depthAll]
  | r :: rs => by
    have ih := dLs_depth rs
    have h := dI_depth r
    simp only [List.map_cons, PyData.depthAll]
    omega
theorem dI_lay1 (ns : List Int) : PyData.canLay0 (dI ns) = true := by
  simp only [dI, PyData.canLay0]
  exact dI_lay ns
theorem dLs_lay : ∀ rs : List (List Int), PyData.canLayAll0 (rs.map dI) = true
  | [] => by simp [PyData.canLayAll0]
  | r :: rs => by
    have ih := dLs_lay rs
    simp [PyData.canLayAll0, dI_lay1, ih]
theorem dLs_eqvAll : ∀ rs ts : List (List Int), PyData.eqvAll (rs.map dI) (ts.map dI) = decide (rs = ts)
  | [], [] => by simp [PyData.eqvAll]
  | [], _ :: _ => by simp [PyData.eqvAll]
  | _ :: _, [] => by simp [PyData.eqvAll]
  | r :: rs, t :: ts => by
    have ih := dLs_eqvAll rs ts
    simp only [List.map_cons, PyData.eqvAll, dI_eqv, ih]
    by_cases h1 : r = t
    · by_cases h2 : rs = ts
      · simp [h1, h2]
      · simp [h1, h2]
    · simp [h1]
/-- a list of lists of whole numbers -/
def dL (rs : List (List Int)) : PyData := .list (rs.map dI)
/-- a tuple of them -/
def dT (rs : List (List Int)) : PyData := .tuple (rs.map dI)
theorem dL_shaped (rs : List (List Int)) : SeqAt.shaped (dL rs) = true := by
  have h1 := dLs_depth rs
  have h2 : PyData.depth (dL rs) ≤ 64 := by
    simp only [dL, PyData.depth]
    omega
  unfold SeqAt.shaped
  rw [Bool.and_eq_true]
  exact ⟨by simp only [dL, PyData.canLay0]; exact dLs_lay rs, decide_eq_true h2⟩
theorem dT_shaped (rs : List (List Int)) : SeqAt.shaped (dT rs) = true := by
  have h1 := dLs_depth rs
  have h2 : PyData.depth (dT rs) ≤ 64 := by
    simp only [dT, PyData.depth]
    omega
  unfold SeqAt.shaped
  rw [Bool.and_eq_true]
  exact ⟨by simp only [dT, PyData.canLay0]; exact dLs_lay rs, decide_eq_true h2⟩
theorem dL_eqv (rs ts : List (List Int)) : PyData.eqv (dL rs) (dL ts) = decide (rs = ts) := by
  show PyData.eqvAll _ _ = _
  exact dLs_eqvAll rs ts
theorem dT_eqv (rs ts : List (List Int)) : PyData.eqv (dT rs) (dT ts) = decide (rs = ts) := by
  show PyData.eqvAll _ _ = _
  exact dLs_eqvAll rs ts
/-- lists of whole numbers, one at each place -/
inductive IntsAt (K : PySem.W.Frag) (H : Hp) : List Addr → List (List Int) → Prop
  | nil : IntsAt K H [] []
  | cons {a : Addr} {ns : List Int} {as : List Addr} {rs : List (List Int)} : SqL K H a (ns.map V.int) → IntsAt K H as rs → IntsAt K H (a :: as) (ns :: rs)
section
variable {K : PySem.W.Frag} {H H' : Hp}
theorem IntsAt.mono {as : List Addr} {rs : List (List Int)} (h : IntsAt K H as rs) (s : Same H H') : IntsAt K H' as rs := by
  induction h with
  | nil => exact .nil
  | cons h1 _ ih => exact .cons (s.seq h1) ih
theorem IntsAt.len {as : List Addr} {rs : List (List Int)} (h : IntsAt K H as rs) : as.length = rs.length := by
  induction h with
  | nil => rfl
  | cons _ _ ih => simp [ih]
theorem IntsAt.get {as : List Addr} {rs : List (List Int)} (h : IntsAt K H as rs) : ∀ {i : Nat} {x : V}, (as.map V.ref)[i]? = some x → ∃ a ns, x = .ref a ∧ as[i]? = some a ∧ rs[i]? = some ns ∧ SqL K H a (ns.map V.int) := by
  induction h with
  | nil => exact fun e => nomatch e
  | cons h1 _ ih =>
    intro i x e
    cases i with
    | zero => exact ⟨_, _, (Option.some.inj e).symm, rfl, rfl, h1⟩
    | succ i => exact ih e
theorem IntsAt.snoc {as : List Addr} {rs : List (List Int)} {a : Addr} {ns : List Int} (h : IntsAt K H as rs) (h1 : SqL K H a (ns.map V.int)) : IntsAt K H (as ++ [a]) (rs ++ [ns]) := by
  induction h with
  | nil => exact .cons h1 .nil
  | cons h2 _ ih => exact .cons h2 ih
theorem IntsAt.reverse {as : List Addr} {rs : List (List Int)} (h : IntsAt K H as rs) : IntsAt K H as.reverse rs.reverse := by
  induction h with
  | nil => exact .nil
  | cons h1 _ ih =>
    rw [List.reverse_cons, List.reverse_cons]
    exact ih.snoc h1
theorem IntsAt.take {as : List Addr} {rs : List (List Int)} (h : IntsAt K H as rs) : ∀ i : Nat, IntsAt K H (as.take i) (rs.take i) := by
  induction h with
  | nil => intro i; rw [List.take_nil, List.take_nil]; exact .nil
  | cons h1 _ ih =>
    intro i
    cases i with
    | zero => exact .nil
    | succ i => exact .cons h1 (ih i)
theorem IntsAt.drop {as : List Addr} {rs : List (List Int)} (h : IntsAt K H as rs) : ∀ i : Nat, IntsAt K H (as.drop i) (rs.drop i) := by
  induction h with
  | nil => intro i; rw [List.drop_nil, List.drop_nil]; exact .nil
  | cons h1 h2 ih =>
    intro i
    cases i with
    | zero => exact .cons h1 h2
    | succ i => exact ih i
theorem IntsAt.dp {as : List Addr} {rs : List (List Int)} (h : IntsAt K H as rs) : DpAll K H (as.map V.ref) (rs.map dI) := by
  induction h with
  | nil => exact .nil
  | cons h1 _ ih => exact .cons (dp_ints h1) ih
theorem dp_lists {p : Addr} {as : List Addr} {rs : List (List Int)} (hp : SqL K H p (as.map V.ref)) (h : IntsAt K H as rs) : Dp K H (.ref p) (dL rs) := .lst hp h.dp
theorem dp_tup {p : Addr} {as : List Addr} {rs : List (List Int)} (hp : SqT K H p (as.map V.ref)) (h : IntsAt K H as rs) : Dp K H (.ref p) (dT rs) := .tup hp h.dp
theorem seqT {t : Addr} {xs : List V} (s : Same H H') (h : SqT K H t xs) : SqT K H' t xs := by
  rcases h with h | h
  · rcases h with h | ⟨ob, h⟩
    · exact .inl (.inl (s _ _ h))
    · exact .inl (.inr ⟨ob, s _ _ h⟩)
  · exact .inr h
end
end FG

/-! a pair's [::-1] -/
namespace XTupRev
open PySem PySem.Spec PyProof.Rows PySem.Builtin L2 HT
section
variable {prog : Program} {w : World} {A : Around} {E : Value → Shared → Prop} {s : Shared}
theorem parts_back {sl : Addr} {u : Tok} {Q : Int × Int × Nat → Shared → Prop} (hs : s.heap.IsSliceOf sl .none .none (.int (-1) u))
    (h : Q (1, -1, 2) s) : wpAny (model prog w) A (Builtin.Slice.sliceApplied (.ref sl) (pure (2 : Int))) Q E s := by
  obtain ⟨os, hos, hcs, hds⟩ := id hs
  unfold Builtin.Slice.sliceApplied Builtin.Slice.sliceFields
  refine wpAny_bind (wpAny_bind (wpAny_field hos hds (x := .none) rfl (wpAny_bind (wpAny_field hos hds (x := .none) rfl (wpAny_bind (wpAny_field hos hds (x := .int (-1) u) rfl (wpAny_pure ?_)))))))
  refine wpAny_bind (slicePart_int ?_)
  show wpAny _ _ (if ((-1 : Int) == 0) = true then _ else _) _ _ s
  rw [if_neg (by decide)]
  refine wpAny_bind (slicePart_none (wpAny_bind (slicePart_none (wpAny_bind (wpAny_pure ?_)))))
  exact wpAny_pure h
theorem pair_rev {t sl : Addr} {a b : Value} {u : Tok} {Q : Value → Shared → Prop} (ht : IsTup s.heap t #[a, b]) (hs : s.heap.IsSliceOf sl .none .none (.int (-1) u))
    (h : Q (.ref s.heap.objs.size) { s with heap := s.heap.push { cls := .type "tuple", data := .seq #[b, a] } }) : wpAny (model prog w) A (getItem (.ref t) (.ref sl)) Q E s := by
  have htake : sizeOk (.seq #[b, a]) := by
    show 2 ≤ sizeLine
    decide
  obtain ⟨os, hos, hcs, hds⟩ := id hs
  have hTs : s.TypeIs (.ref sl) "slice" := ⟨os, hos, hcs⟩
  unfold getItem
  try with_reducible refine wpAny_holding ?_
  first | refine wpAny_bind (wpAny_pure ?_) | skip
  refine wpAny_bind (wpAny_sequenceKey ht.typeIs (by decide) ?_)
  refine wpAny_bind (wpAny_callSpecial?_slot (name := Str.ofString "__getitem__") ht.typeIs PyProof.Rows.slot_tuple_getitem
    (wpAny_call_entry PyProof.Rows.slot_tuple_getitem ht.typeIs entry_tuple_getitem ?_ (args_tuple_getitem _ _)))
  show wpAny _ _ (Builtin.Tuple.tupleItemsOf (.ref t) >>= _) _ _ s
  refine wpAny_bind (tupleItemsOf_ ht ?_)
  refine wpAny_bind (wpAny_typeOf hTs ?_)
  rw [if_pos (by decide)]
  refine wpAny_bind (parts_back hs ?_)
  show wpAny _ _ (if (((1 : Int) == 0) && ((-1 : Int) == 1) && ((2 : Nat) == 2)) = true then _ else _) _ _ s
  rw [if_neg (by decide)]
  have e : ((List.range 2).filterMap fun (m : Nat) => #[a, b][((1 : Int) + (m : Int) * -1).toNat]?).toArray = #[b, a] := rfl
  rw [e]
  first
    | exact wpAny_bind (m := Builtin.Tuple.tupleExact _) (wpAny_newObj_type (wpAny_pure ⟨_, rfl, wpAny_pure h⟩) htake)
    | exact wpAny_bind (m := Builtin.Tuple.tupleExact _) (wpAny_newObj_type (wpAny_bind (wpAny_pure (wpAny_pure ⟨_, rfl, wpAny_pure h⟩))) htake)
    | exact wpAny_bind (wpAny_bind (m := Builtin.Tuple.tupleExact _) (wpAny_newObj_type (wpAny_pure (wpAny_pure ⟨_, rfl, wpAny_pure h⟩)) htake))
    | exact wpAny_bind (wpAny_bind (m := Builtin.Tuple.tupleExact _) (wpAny_newObj_type (wpAny_pure ⟨_, rfl, wpAny_pure h⟩) htake))
end
def tRevP (K : PySem.W.Frag) (te : TE) : TE := fun σ H Q => te σ H fun x H1 => ∃ a y z, x = .ref a ∧ SqT K H1 a [y, z] ∧ ∀ p, H1 p = none → Q (.ref p) (upd H1 p (.tup [z, y]))
theorem pe_revP {X : Cx} {e : Expr} {te : TE} {k : Nat} {p1 p2 p3 pos : Pos} (he : PE X e te) : PE X (.Subscript e (.Slice none none (some (.UnaryOp .USub (.Constant (.int 1) k p1) p2)) p3) pos) (tRevP X.K te) := by
  refine ⟨fun pins s σ H Q I h => ?_⟩
  refine Subscript_ (thn (he.run pins s σ H _ I h) fun v s1 ⟨x, H1, I1, r1, q1⟩ => ?_)
  obtain ⟨a, y, z, ex, hx, q⟩ := q1
  subst ex
  cases r1
  have hst : PO X (some (.UnaryOp .USub (.Constant (.int 1) k p1) p2)) (tPart (tUn (rU fun i => .int (-i)) (tC (.int 1)))) := po_some (pe_un un_neg pe_int)
  refine wpAny_Slice (thn (po_none.run pins s1 σ H1 (fun o H2 => o = none ∧ H2 = H1) I1 ⟨rfl, rfl⟩) fun vl s2 ⟨l, H2, I2, pl, el, e2⟩ => ?_)
  subst el e2
  refine thn (po_none.run pins s2 σ H2 (fun o H3 => o = none ∧ H3 = H2) I2 ⟨rfl, rfl⟩) fun vu s3 ⟨u, H3, I3, pu, eu, e3⟩ => ?_
  subst eu e3
  refine thn (hst.run pins s3 σ H3 (fun o H4 => o = some (-1) ∧ H4 = H3) I3 ⟨1, rfl, -1, rfl, rfl, rfl⟩) fun vs s4 ⟨o, H4, I4, ps, eo, e4⟩ => ?_
  subst eo e4
  have I5 : Inv X pins σ H4 { s4 with heap := s4.heap.push { cls := .type "slice", data := .fields #[vl, vu, vs] } } := I4.kept (t' := s4.toks) fun b ob q => Heap.get?_push_of_some _ q
  obtain ⟨its, r, ht, hz⟩ := I5.tuple hx
  cases r with
  | cons ry rr =>
    cases rr with
    | cons rz rr =>
      cases rr
      cases pl
      cases pu
      cases ps
      rename_i uy tk hx0
      show wpAny (model X.prog X.w) X.A (subscriptTail e (.Slice none none (some (.UnaryOp .USub (.Constant (.int 1) k p1) p2)) p3) (.ref a) (.ref s4.heap.objs.size)) (EP X pins σ Q) X.xe { s4 with heap := s4.heap.push { cls := .type "slice", data := .fields #[.none, .none, .int (-1) tk] } }
      refine tail_any (ops := [.ref a, .ref s4.heap.objs.size]) ht.typeIs (PyProof.Rows.slot_tuple_getitem.lookup) ?_ (by with_unfolding_all rfl)
      refine pair_rev ht (Heap.IsSliceOf.new _ .none .none (.int (-1) tk)) ?_
      refine ⟨.ref _, _, I5.laid (t' := s4.toks) (o := .tup [z, y]) (fun b ob q => Heap.get?_push_of_some _ q) (Nat.le_refl _) ?_, rfl, q _ (I5.hok.fresh (Nat.le_refl _))⟩
      exact ⟨by show 2 ≤ sizeLine; decide, _, .cons rz (.cons ry .nil), IsTup.new _ _⟩
end XTupRev

set_option maxHeartbeats 4000000
/-! what a def that tells a lean row promises; rows that stand as lists of their own -/
namespace FG
open PySem PySem.Spec PyProof.Rows L2
theorem none_same {H H' : Hp} {p : Addr} (s : Same H H') (h : H' p = none) : H p = none := by
  cases e : H p with
  | none => rfl
  | some o => exact absurd ((s p o e).symm.trans h) (by simp)
def LeanTold (H : Hp) (n : Int) (N : Nat) (Q : VK) : Prop :=
  ∀ (H' : Hp) (p : Addr) (r : List Int), Same H H' → H p = none → Row r → gaps r = true → val r = n → r.length ≤ N + 1 → H' p = some (.lst (r.map V.int)) → Q (.ref p) H'
theorem LeanTold.mono {H H1 : Hp} {n : Int} {N : Nat} {Q : VK} (q : LeanTold H n N Q) (s : Same H H1) : LeanTold H1 n N Q :=
  fun H' p r s' np => q H' p r (s.trans s') (none_same s np)
theorem cut_fromV (xs : List V) (k : Nat) : cutV xs (some (k : Int)) none = xs.drop k := by
  unfold cutV
  rw [HT.sIx_nat, HT.sIx_none]
  by_cases h : k ≤ xs.length
  · rw [Nat.min_eq_left h]
    apply List.take_of_length_le
    rw [List.length_drop]
    exact Nat.le_refl _
  · have h' : xs.length ≤ k := by omega
    rw [Nat.min_eq_right h', List.drop_eq_nil_of_le h', List.drop_eq_nil_of_le (Nat.le_refl _)]
    simp
theorem cut_toV (xs : List V) (k : Nat) : cutV xs none (some (k : Int)) = xs.take k := by
  unfold cutV
  rw [HT.sIx_nat, HT.sIx_none]
  show List.take (min k xs.length - 0) (List.drop 0 xs) = _
  rw [Nat.sub_zero, List.drop_zero]
  by_cases h : k ≤ xs.length
  · rw [Nat.min_eq_left h]
  · have h' : xs.length ≤ k := by omega
    rw [Nat.min_eq_right h', List.take_length, List.take_of_length_le h']
/-- lists of whole numbers, each a list of its own -/
inductive Own (H : Hp) : List Addr → List (List Int) → Prop
  | nil : Own H [] []
  | cons {a : Addr} {ns : List Int} {as : List Addr} {rs : List (List Int)} : H a = some (.lst (ns.map V.int)) → Own H as rs → Own H (a :: as) (ns :: rs)
section
variable {K : PySem.W.Frag} {H H' : Hp} {as : List Addr} {rs : List (List Int)}
theorem Own.ints (h : Own H as rs) : IntsAt K H as rs := by
  induction h with
  | nil => exact .nil
  | cons h1 _ ih => exact .cons (SqL.of h1) ih
theorem Own.mono (h : Own H as rs) (s : Same H H') : Own H' as rs := by
  induction h with
  | nil => exact .nil
  | cons h1 _ ih => exact .cons (s _ _ h1) ih
theorem Own.len (h : Own H as rs) : as.length = rs.length := by
  induction h with
  | nil => rfl
  | cons _ _ ih => simp [ih]
theorem Own.snoc {a : Addr} {ns : List Int} (h : Own H as rs) (h1 : H a = some (.lst (ns.map V.int))) : Own H (as ++ [a]) (rs ++ [ns]) := by
  induction h with
  | nil => exact .cons h1 .nil
  | cons h2 _ ih => exact .cons h2 ih
/-- none of them is a place that was free -/
theorem Own.free {x : Addr} (h : Own H as rs) (nx : H x = none) : x ∉ as := by
  induction h with
  | nil => simp
  | cons h1 _ ih =>
    intro m
    rcases List.mem_cons.mp m with e | e
    · subst e
      rw [nx] at h1
      cases h1
    · exact ih e
/-- they stand while all but x stands -/
theorem Own.but {x : Addr} (h : Own H as rs) (nx : x ∉ as) (f : ∀ b o, b ≠ x → H b = some o → H' b = some o) : Own H' as rs := by
  induction h with
  | nil => exact .nil
  | cons h1 _ ih =>
    exact .cons (f _ _ (fun e => nx (by rw [e]; exact List.mem_cons_self)) h1) (ih fun m => nx (List.mem_cons_of_mem _ m))
theorem Own.get (h : Own H as rs) {i : Nat} {ns : List Int} (e : rs[i]? = some ns) : ∃ a, as[i]? = some a ∧ H a = some (.lst (ns.map V.int)) := by
  induction h generalizing i with
  | nil => exact nomatch e
  | cons h1 _ ih =>
    cases i with
    | zero =>
      cases e
      exact ⟨_, rfl, h1⟩
    | succ i => exact ih e
end
section
variable {H H' : Hp} {as : List Addr} {rs : List (List Int)}
theorem Own.keep (h : Own H as rs) (f : ∀ b u, b ∈ as → H b = some u → H' b = some u) : Own H' as rs := by
  induction h with
  | nil => exact .nil
  | cons h1 _ ih => exact .cons (f _ _ List.mem_cons_self h1) (ih fun b u m => f b u (List.mem_cons_of_mem _ m))
theorem Own.there {b : Addr} (h : Own H as rs) (m : b ∈ as) : ∃ u, H b = some u := by
  induction h with
  | nil => exact nomatch m
  | cons h1 _ ih =>
    rcases List.mem_cons.mp m with e | e
    · rw [e]
      exact ⟨_, h1⟩
    · exact ih e
theorem Own.reverse (h : Own H as rs) : Own H as.reverse rs.reverse := by
  induction h with
  | nil => exact .nil
  | cons h1 _ ih =>
    rw [List.reverse_cons, List.reverse_cons]
    exact ih.snoc h1
theorem Own.drop (h : Own H as rs) : ∀ i : Nat, Own H (as.drop i) (rs.drop i) := by
  induction h with
  | nil => intro i; rw [List.drop_nil, List.drop_nil]; exact .nil
  | cons h1 h2 ih =>
    intro i
    cases i with
    | zero => exact .cons h1 h2
    | succ i => exact ih i
theorem Own.take (h : Own H as rs) : ∀ i : Nat, Own H (as.take i) (rs.take i) := by
  induction h with
  | nil => intro i; rw [List.take_nil, List.take_nil]; exact .nil
  | cons h1 _ ih =>
    intro i
    cases i with
    | zero => exact .nil
    | succ i => exact .cons h1 (ih i)
end
theorem upd_but {H : Hp} {x : Addr} {o : HO} : ∀ b u, b ≠ x → H b = some u → upd H x o b = some u := fun b u n e => by
  rw [upd_ne n]
  exact e
/-- the first lists copied, one by one, into a new list at D -/
def Copied (H1 : Hp) (D : Addr) (rs : List (List Int)) (i : Nat) (Hx : Hp) : Prop :=
  ∃ bs, Own Hx bs (rs.take i) ∧ D ∉ bs ∧ Same H1 Hx ∧ Hx D = some (.lst (bs.map V.ref)) ∧ ∀ b ∈ bs, H1 b = none
theorem Copied.start {H1 : Hp} {D : Addr} {rs : List (List Int)} (nD : H1 D = none) : Copied H1 D rs 0 (upd H1 D (.lst [])) :=
  ⟨[], .nil, by simp, same_upd nD, upd_same, fun _ m => nomatch m⟩
theorem Copied.step {H1 Hx : Hp} {D l : Addr} {rs : List (List Int)} {i : Nat} {r : List Int} (c : Copied H1 D rs i Hx) (nD : H1 D = none) (e : rs[i]? = some r) (nl : Hx l = none) :
    ∃ acc, (upd Hx l (.lst (r.map V.int))) D = some (.lst acc) ∧ acc.length ≤ rs.length ∧ Copied H1 D rs (i + 1) (upd (upd Hx l (.lst (r.map V.int))) D (.lst (acc ++ [.ref l]))) := by
  obtain ⟨bs, own, nb, s1, eD, nw⟩ := c
  have s2 : Same Hx (upd Hx l (.lst (r.map V.int))) := same_upd nl
  have lD : l ≠ D := fun z => by rw [z, eD] at nl; cases nl
  refine ⟨bs.map V.ref, s2 _ _ eD, ?_, bs ++ [l], ?_, ?_, fun b u h => ?_, ?_, fun b m => ?_⟩
  · rw [List.length_map, own.len, List.length_take]
    omega
  · rw [List.take_add_one, e]
    refine ((own.mono s2).snoc (a := l) upd_same).but (x := D) ?_ upd_but
    intro m
    rcases List.mem_append.mp m with m | m
    · exact nb m
    · exact lD (List.mem_singleton.mp m).symm
  · intro m
    rcases List.mem_append.mp m with m | m
    · exact nb m
    · exact lD (List.mem_singleton.mp m).symm
  · rw [upd_ne (ne_of_none h nD)]
    exact s2 _ _ (s1 _ _ h)
  · rw [upd_same, List.map_append]
    rfl
  · rcases List.mem_append.mp m with m | m
    · exact nw b m
    · rw [List.mem_singleton.mp m]
      exact none_same s1 nl
theorem Copied.done {H1 Hx : Hp} {D : Addr} {rs : List (List Int)} {m : Nat} (c : Copied H1 D rs m Hx) (e : rs.length ≤ m) :
    ∃ bs, Own Hx bs rs ∧ D ∉ bs ∧ Same H1 Hx ∧ Hx D = some (.lst (bs.map V.ref)) ∧ ∀ b ∈ bs, H1 b = none := by
  obtain ⟨bs, own, h⟩ := c
  rw [List.take_of_length_le e] at own
  exact ⟨bs, own, h⟩
/-- pairs that are held at h: each one of two lists alike -/
def HeldOk (H : Hp) (h : Addr) (hs : List V) : Prop := ∀ x ∈ hs, ∃ (t p o : Addr) (xs : List Int), x = .ref t ∧ t ≠ h ∧ p ≠ h ∧ o ≠ h ∧ H t = some (.tup [.ref p, .ref o]) ∧ H p = some (.lst (xs.map V.int)) ∧ H o = some (.lst (xs.map V.int))
theorem HeldOk.keep {H H' : Hp} {h : Addr} {hs : List V} (k : HeldOk H h hs) (f : ∀ b u, b ≠ h → H b = some u → H' b = some u) : HeldOk H' h hs := fun x hx => by
  obtain ⟨t, p, o, xs, e, a, b, c, d1, d2, d3⟩ := k x hx
  exact ⟨t, p, o, xs, e, a, b, c, f _ _ a d1, f _ _ b d2, f _ _ c d3⟩
theorem HeldOk.snoc {H : Hp} {h t p o : Addr} {hs : List V} {xs : List Int} (k : HeldOk H h hs) (a : t ≠ h) (b : p ≠ h) (c : o ≠ h) (d1 : H t = some (.tup [.ref p, .ref o])) (d2 : H p = some (.lst (xs.map V.int))) (d3 : H o = some (.lst (xs.map V.int))) :
    HeldOk H h (hs ++ [.ref t]) := fun x hx => by
  rcases List.mem_append.mp hx with m | m
  · exact k x m
  · exact ⟨t, p, o, xs, List.mem_singleton.mp m, a, b, c, d1, d2, d3⟩
theorem if_heap {S A P : Hp → Prop} {c : Bool} (go : ∀ Hx, S Hx → P Hx) (hA : ∀ Hx, S Hx → c = true → (∀ Hx, S Hx → P Hx) → A Hx) : ∀ Hx, S Hx → if c = true then A Hx else P Hx := fun z hz => by
  by_cases h : c = true
  · rw [if_pos h]
    exact hA z hz h go
  · rw [if_neg h]
    exact go z hz
theorem if_num {b A P : Int → Prop} {c : Bool} (go : ∀ n, b n → P n) (hA : ∀ z, b z → c = true → (∀ n, b n → P n) → A z) : ∀ z, b z → if c = true then A z else P z := fun z hz => by
  by_cases h : c = true
  · rw [if_pos h]
    exact hA z hz h go
  · rw [if_neg h]
    exact go z hz
theorem sign_small (z : Int) : -(2 ^ 64 : Int) < 1 - 2 * (if decide (z < 0) = true then (1 : Int) else 0) ∧ 1 - 2 * (if decide (z < 0) = true then (1 : Int) else 0) < 2 ^ 64 := by
  split <;> omega
theorem cut_lt {z m : Int} {k : Nat} (h : 0 < m) (hm : m ≤ ((2 ^ k : Nat) : Int)) : ((if z < 0 then -z else z) % m * (1 - 2 * (if decide (z < 0) = true then (1 : Int) else 0))).natAbs < 2 ^ k := by
  have h1 := Int.emod_nonneg (if z < 0 then -z else z) (show m ≠ 0 by omega)
  have h2 := Int.emod_lt_of_pos (if z < 0 then -z else z) h
  generalize (if z < 0 then -z else z) % m = r at h1 h2
  generalize 2 ^ k = P at hm
  split <;> omega
/-- list(xs), as a rule whose reading names the frame alone -/
def rListOf (K : PySem.W.Frag) : List V → Hp → VK → Prop := fun xs H Q => ∃ p ys, xs = [.ref p] ∧ (SqL K H p ys ∨ SqT K H p ys) ∧ ∀ l, H l = none → Q (.ref l) (upd H l (.lst ys))
theorem call_listOf {X : Cx} : CallR X (.type "list") (rListOf X.K) := call_list_of
/-- what numbers are together -/
def total (rs : List (List Int)) : Int := (rs.map val).sum
theorem total_snoc (rs : List (List Int)) (r : List Int) : total (rs ++ [r]) = total rs + val r := by
  unfold total
  simp
theorem total_append (rs ts : List (List Int)) : total (rs ++ ts) = total rs + total ts := by
  unfold total
  rw [List.map_append, List.sum_append_int]
theorem total_rev (rs : List (List Int)) : total rs.reverse = total rs := by
  induction rs with
  | nil => rfl
  | cons r rs ih =>
    rw [List.reverse_cons, total_snoc, ih]
    unfold total
    rw [List.map_cons, List.sum_cons, Int.add_comm]
theorem total_lt {k : Nat} : ∀ {m : Nat} (rs : List (List Int)), (∀ r ∈ rs, (val r).natAbs < 2 ^ k) → rs.length ≤ m → (total rs).natAbs ≤ m * 2 ^ k
  | m, [], _, _ => by
    unfold total
    simp
  | 0, _ :: _, _, h => absurd h (by simp)
  | m + 1, r :: rs, hb, h => by
    have ih := total_lt (m := m) rs (fun q hq => hb q (List.mem_cons_of_mem _ hq)) (by simpa using h)
    have h1 := hb r List.mem_cons_self
    have e : total (r :: rs) = val r + total rs := rfl
    rw [e, Nat.succ_mul]
    omega
end FG

namespace K06
open PySem PySem.Spec PyProof.Rows L2 FG 
/-! ### the text -/
def topS (i : Nat) : Stmt := PySem.Challenge.pw_leanfigures_k06_whole_products.main.body.getD i (.Pass ⟨0, 0, 0, 0⟩)
abbrev t_is_whole : Stmt := topS 5
abbrev p_is_whole : List Str := ["thing"]
theorem sc_is_whole : FnScope ["thing"] p_is_whole (defScope t_is_whole) := ⟨rfl, rfl, rfl, by decide +kernel, rfl, by decide +kernel, by decide +kernel⟩
abbrev t_is_figure : Stmt := topS 6
abbrev p_is_figure : List Str := ["thing"]
theorem sc_is_figure : FnScope ["thing"] p_is_figure (defScope t_is_figure) := ⟨rfl, rfl, rfl, by decide +kernel, rfl, by decide +kernel, by decide +kernel⟩
abbrev t_is_row : Stmt := topS 7
abbrev p_is_row : List Str := ["thing"]
theorem sc_is_row : FnScope ["thing", "item"] p_is_row (defScope t_is_row) := ⟨rfl, rfl, rfl, by decide +kernel, rfl, by decide +kernel, by decide +kernel⟩
abbrev t_refuse_no_row : Stmt := topS 8
abbrev p_refuse_no_row : List Str := ["thing"]
theorem sc_refuse_no_row : FnScope ["thing"] p_refuse_no_row (defScope t_refuse_no_row) := ⟨rfl, rfl, rfl, by decide +kernel, rfl, by decide +kernel, by decide +kernel⟩
abbrev t_refuse_no_number : Stmt := topS 9
abbrev p_refuse_no_number : List Str := ["thing"]
theorem sc_refuse_no_number : FnScope ["thing"] p_refuse_no_number (defScope t_refuse_no_number) := ⟨rfl, rfl, rfl, by decide +kernel, rfl, by decide +kernel, by decide +kernel⟩
abbrev t_worth : Stmt := topS 10
abbrev p_worth : List Str := ["row"]
theorem sc_worth : FnScope ["row"] p_worth (defScope t_worth) := ⟨rfl, rfl, rfl, by decide +kernel, rfl, by decide +kernel, by decide +kernel⟩
abbrev t_marked : Stmt := topS 11
abbrev p_marked : List Str := ["row", "figure"]
theorem sc_marked : FnScope ["row", "figure", "marks", "item"] p_marked (defScope t_marked) := ⟨rfl, rfl, rfl, by decide +kernel, rfl, by decide +kernel, by decide +kernel⟩
abbrev t_lean : Stmt := topS 12
abbrev p_lean : List Str := ["number"]
theorem sc_lean : FnScope ["number", "ups", "downs", "many", "up", "down"] p_lean (defScope t_lean) := ⟨rfl, rfl, rfl, by decide +kernel, rfl, by decide +kernel, by decide +kernel⟩
abbrev t_lean_parts : Stmt := topS 13
abbrev p_lean_parts : List Str := ["number"]
theorem sc_lean_parts : FnScope ["number", "half", "more", "apart"] p_lean_parts (defScope t_lean_parts) := ⟨rfl, rfl, rfl, by decide +kernel, rfl, by decide +kernel, by decide +kernel⟩
abbrev t_places : Stmt := topS 14
abbrev p_places : List Str := ["number", "many"]
theorem sc_places : FnScope ["number", "many", "text"] p_places (defScope t_places) := ⟨rfl, rfl, rfl, by decide +kernel, rfl, by decide +kernel, by decide +kernel⟩
abbrev t_multiplied : Stmt := topS 16
abbrev p_multiplied : List Str := ["one", "other"]
theorem sc_multiplied : FnScope ["one", "other"] p_multiplied (defScope t_multiplied) := ⟨rfl, rfl, rfl, by decide +kernel, rfl, by decide +kernel, by decide +kernel⟩
abbrev t_together : Stmt := topS 17
abbrev p_together : List Str := ["rows"]
theorem sc_together : FnScope ["rows", "row"] p_together (defScope t_together) := ⟨rfl, rfl, rfl, by decide +kernel, rfl, by decide +kernel, by decide +kernel⟩
abbrev t_Lcell_at : Stmt := topS 19
abbrev p_Lcell_at : List Str := ["_law_script", "_law_k"]
theorem sc_Lcell_at : FnScope ["_law_script", "_law_k"] p_Lcell_at (defScope t_Lcell_at) := ⟨rfl, rfl, rfl, by decide +kernel, rfl, by decide +kernel, by decide +kernel⟩
abbrev t_Lmixed : Stmt := topS 20
abbrev p_Lmixed : List Str := ["_law_cell", "_law_k"]
theorem sc_Lmixed : FnScope ["_law_cell", "_law_k", "_law_number_here"] p_Lmixed (defScope t_Lmixed) := ⟨rfl, rfl, rfl, by decide +kernel, rfl, by decide +kernel, by decide +kernel⟩
abbrev t_Lwhole : Stmt := topS 21
abbrev p_Lwhole : List Str := ["_law_found"]
theorem sc_Lwhole : FnScope ["_law_found"] p_Lwhole (defScope t_Lwhole) := ⟨rfl, rfl, rfl, by decide +kernel, rfl, by decide +kernel, by decide +kernel⟩
abbrev t_Lnumber : Stmt := topS 22
abbrev p_Lnumber : List Str := ["_law_cell"]
theorem sc_Lnumber : FnScope ["_law_cell", "_law_more", "_law_power", "_law_turn", "_law_some", "_law_wide"] p_Lnumber (defScope t_Lnumber) := ⟨rfl, rfl, rfl, by decide +kernel, rfl, by decide +kernel, by decide +kernel⟩
abbrev t_Lworth : Stmt := topS 23
abbrev p_Lworth : List Str := ["_law_row_here"]
theorem sc_Lworth : FnScope ["_law_row_here", "_law_found", "_law_power", "_law_figure"] p_Lworth (defScope t_Lworth) := ⟨rfl, rfl, rfl, by decide +kernel, rfl, by decide +kernel, by decide +kernel⟩
abbrev t_Lis_lean : Stmt := topS 24
abbrev p_Lis_lean : List Str := ["_law_row_here"]
theorem sc_Lis_lean : FnScope ["_law_row_here", "_law_k"] p_Lis_lean (defScope t_Lis_lean) := ⟨rfl, rfl, rfl, by decide +kernel, rfl, by decide +kernel, by decide +kernel⟩
abbrev t_Lis_row_for : Stmt := topS 25
abbrev p_Lis_row_for : List Str := ["_law_row_here", "_law_number_here"]
theorem sc_Lis_row_for : FnScope ["_law_row_here", "_law_number_here"] p_Lis_row_for (defScope t_Lis_row_for) := ⟨rfl, rfl, rfl, by decide +kernel, rfl, by decide +kernel, by decide +kernel⟩
abbrev t_Lsmall : Stmt := topS 26
abbrev p_Lsmall : List Str := ["_law_cell"]
theorem sc_Lsmall : FnScope ["_law_cell", "_law_number_here"] p_Lsmall (defScope t_Lsmall) := ⟨rfl, rfl, rfl, by decide +kernel, rfl, by decide +kernel, by decide +kernel⟩
abbrev t_Lrow : Stmt := topS 27
abbrev p_Lrow : List Str := ["_law_number_here", "_law_cell"]
theorem sc_Lrow : FnScope ["_law_number_here", "_law_cell", "_law_sign", "_law_left", "_law_found"] p_Lrow (defScope t_Lrow) := ⟨rfl, rfl, rfl, by decide +kernel, rfl, by decide +kernel, by decide +kernel⟩
abbrev t_law : Stmt := topS 28
abbrev p_law : List Str := ["_law_script"]
theorem sc_law : FnScope ["_law_script", "_law_numbers", "_law_rows", "_law_handed", "_law_k", "_law_other", "_law_found", "_law_factor", "_law_due", "_law_cell", "_law_number_here", "_law_row_here", "_law_one"] p_law (defScope t_law) := ⟨rfl, rfl, rfl, by decide +kernel, rfl, by decide +kernel, by decide +kernel⟩
/-- what the top has left: where each def stands, and that the built-in names are still the built-in ones -/
structure Txt (K : PySem.W.Frag) (mg : Str → Option Value) where
  a_is_whole : Addr
  d_is_whole : FuncData
  F_is_whole : Fun K "is_whole" "is_whole" t_is_whole a_is_whole d_is_whole
  b_is_whole : Binds K d_is_whole p_is_whole []
  g_is_whole : mg "is_whole" = some (.ref a_is_whole)
  a_is_figure : Addr
  d_is_figure : FuncData
  F_is_figure : Fun K "is_figure" "is_figure" t_is_figure a_is_figure d_is_figure
  b_is_figure : Binds K d_is_figure p_is_figure []
  g_is_figure : mg "is_figure" = some (.ref a_is_figure)
  a_is_row : Addr
  d_is_row : FuncData
  F_is_row : Fun K "is_row" "is_row" t_is_row a_is_row d_is_row
  b_is_row : Binds K d_is_row p_is_row []
  g_is_row : mg "is_row" = some (.ref a_is_row)
  a_refuse_no_row : Addr
  d_refuse_no_row : FuncData
  F_refuse_no_row : Fun K "refuse_no_row" "refuse_no_row" t_refuse_no_row a_refuse_no_row d_refuse_no_row
  b_refuse_no_row : Binds K d_refuse_no_row p_refuse_no_row []
  g_refuse_no_row : mg "refuse_no_row" = some (.ref a_refuse_no_row)
  a_refuse_no_number : Addr
  d_refuse_no_number : FuncData
  F_refuse_no_number : Fun K "refuse_no_number" "refuse_no_number" t_refuse_no_number a_refuse_no_number d_refuse_no_number
  b_refuse_no_number : Binds K d_refuse_no_number p_refuse_no_number []
  g_refuse_no_number : mg "refuse_no_number" = some (.ref a_refuse_no_number)
  a_worth : Addr
  d_worth : FuncData
  F_worth : Fun K "worth" "worth" t_worth a_worth d_worth
  b_worth : Binds K d_worth p_worth []
  g_worth : mg "worth" = some (.ref a_worth)
  a_marked : Addr
  d_marked : FuncData
  F_marked : Fun K "marked" "marked" t_marked a_marked d_marked
  b_marked : Binds K d_marked p_marked []
  g_marked : mg "marked" = some (.ref a_marked)
  a_lean : Addr
  d_lean : FuncData
  F_lean : Fun K "lean" "lean" t_lean a_lean d_lean
  b_lean : Binds K d_lean p_lean []
  g_lean : mg "lean" = some (.ref a_lean)
  a_lean_parts : Addr
  d_lean_parts : FuncData
  F_lean_parts : Fun K "lean_parts" "lean_parts" t_lean_parts a_lean_parts d_lean_parts
  b_lean_parts : Binds K d_lean_parts p_lean_parts []
  g_lean_parts : mg "lean_parts" = some (.ref a_lean_parts)
  a_places : Addr
  d_places : FuncData
  F_places : Fun K "places" "places" t_places a_places d_places
  b_places : Binds K d_places p_places []
  g_places : mg "places" = some (.ref a_places)
  a_multiplied : Addr
  d_multiplied : FuncData
  F_multiplied : Fun K "multiplied" "multiplied" t_multiplied a_multiplied d_multiplied
  b_multiplied : Binds K d_multiplied p_multiplied []
  g_multiplied : mg "multiplied" = some (.ref a_multiplied)
  a_together : Addr
  d_together : FuncData
  F_together : Fun K "together" "together" t_together a_together d_together
  b_together : Binds K d_together p_together []
  g_together : mg "together" = some (.ref a_together)
  a_Lcell_at : Addr
  d_Lcell_at : FuncData
  F_Lcell_at : Fun K "_law_cell_at" "_law_cell_at" t_Lcell_at a_Lcell_at d_Lcell_at
  b_Lcell_at : Binds K d_Lcell_at p_Lcell_at []
  g_Lcell_at : mg "_law_cell_at" = some (.ref a_Lcell_at)
  a_Lmixed : Addr
  d_Lmixed : FuncData
  F_Lmixed : Fun K "_law_mixed" "_law_mixed" t_Lmixed a_Lmixed d_Lmixed
  b_Lmixed : Binds K d_Lmixed p_Lmixed []
  g_Lmixed : mg "_law_mixed" = some (.ref a_Lmixed)
  a_Lwhole : Addr
  d_Lwhole : FuncData
  F_Lwhole : Fun K "_law_whole" "_law_whole" t_Lwhole a_Lwhole d_Lwhole
  b_Lwhole : Binds K d_Lwhole p_Lwhole []
  g_Lwhole : mg "_law_whole" = some (.ref a_Lwhole)
  a_Lnumber : Addr
  d_Lnumber : FuncData
  F_Lnumber : Fun K "_law_number" "_law_number" t_Lnumber a_Lnumber d_Lnumber
  b_Lnumber : Binds K d_Lnumber p_Lnumber []
  g_Lnumber : mg "_law_number" = some (.ref a_Lnumber)
  a_Lworth : Addr
  d_Lworth : FuncData
  F_Lworth : Fun K "_law_worth" "_law_worth" t_Lworth a_Lworth d_Lworth
  b_Lworth : Binds K d_Lworth p_Lworth []
  g_Lworth : mg "_law_worth" = some (.ref a_Lworth)
  a_Lis_lean : Addr
  d_Lis_lean : FuncData
  F_Lis_lean : Fun K "_law_is_lean" "_law_is_lean" t_Lis_lean a_Lis_lean d_Lis_lean
  b_Lis_lean : Binds K d_Lis_lean p_Lis_lean []
  g_Lis_lean : mg "_law_is_lean" = some (.ref a_Lis_lean)
  a_Lis_row_for : Addr
  d_Lis_row_for : FuncData
  F_Lis_row_for : Fun K "_law_is_row_for" "_law_is_row_for" t_Lis_row_for a_Lis_row_for d_Lis_row_for
  b_Lis_row_for : Binds K d_Lis_row_for p_Lis_row_for []
  g_Lis_row_for : mg "_law_is_row_for" = some (.ref a_Lis_row_for)
  a_Lsmall : Addr
  d_Lsmall : FuncData
  F_Lsmall : Fun K "_law_small" "_law_small" t_Lsmall a_Lsmall d_Lsmall
  b_Lsmall : Binds K d_Lsmall p_Lsmall []
  g_Lsmall : mg "_law_small" = some (.ref a_Lsmall)
  a_Lrow : Addr
  d_Lrow : FuncData
  F_Lrow : Fun K "_law_row" "_law_row" t_Lrow a_Lrow d_Lrow
  b_Lrow : Binds K d_Lrow p_Lrow []
  g_Lrow : mg "_law_row" = some (.ref a_Lrow)
  a_law : Addr
  d_law : FuncData
  F_law : Fun K "law" "law" t_law a_law d_law
  b_law : Binds K d_law p_law []
  g_law : mg "law" = some (.ref a_law)
  z_isinstance : mg "isinstance" = none
  z_int : mg "int" = none
  z_bool : mg "bool" = none
  z_list : mg "list" = none
  z_all : mg "all" = none
  z_len : mg "len" = none
  z_reversed : mg "reversed" = none
  z_max : mg "max" = none
  z_zip : mg "zip" = none
  z_sum : mg "sum" = none
  z_range : mg "range" = none
  z_abs : mg "abs" = none
  c_LeanError : Addr
  gc_LeanError : mg "LeanError" = some (.ref c_LeanError)
  c_NoNumber : Addr
  gc_NoNumber : mg "NoNumber" = some (.ref c_NoNumber)
  c_NoRow : Addr
  gc_NoRow : mg "NoRow" = some (.ref c_NoRow)
  digits : PySem.W.nsIn K cStatics "sys.int_max_str_digits" = some none
section
variable {P : Program} {w : World} {K : PySem.W.Frag} {mg : Str → Option Value} {base : Heap}
/-! ### is_whole -/
def sp_is_whole (K : PySem.W.Frag) : Sp := fun vs H Q _ => ∃ x, vs = [x] ∧ Plain K H x ∧ Q (.bl (intV x)) H
theorem ok_is_whole (T : Txt K mg) : FnOk P w K mg base CX0 1 T.a_is_whole T.d_is_whole p_is_whole (sp_is_whole K) := by
  refine T.F_is_whole.ok sc_is_whole (fun vs H Q E h => ?_) (fun cdv A outer s H vs Q E hr h => ?_)
  · obtain ⟨x, rfl, _⟩ := h
    rfl
  · obtain ⟨x, rfl, ⟨i, b, l, k, e⟩, q⟩ := h
    obtain ⟨t, ty, h1, h2, _⟩ := k.ex
    refine ⟨_, pss_one (ps_ret (pe_and (pe_callB call_isi (by rfl) T.z_isinstance (by decide +kernel) (pa_cons (pv 0) (pa_cons (pe_bltn (v := .ty "int") (by rfl) T.z_int (by decide +kernel) rfl) pa_nil)))
      (pe_one (pe_not (pe_callB call_isi (by rfl) T.z_isinstance (by decide +kernel) (pa_cons (pv 0) (pa_cons (pe_bltn (v := .ty "bool") (by rfl) T.z_bool (by decide +kernel) rfl) pa_nil))))))), ?_⟩
    refine ⟨x, rfl, x, _, t, _, i, rfl, .ty _, ty, h1, i, rfl, ?_⟩
    cases i with
    | true => exact iteT ⟨x, rfl, x, _, t, _, b, rfl, .ty _, ty, h2, b, rfl, by rw [← e] at q; exact q⟩
    | false => exact iteF (by rw [← e] at q; exact q)
/-! ### is_figure -/
def sp_is_figure (K : PySem.W.Frag) : Sp := fun vs H Q _ => ∃ x, vs = [x] ∧ Plain K H x ∧ Q (.bl (figV x)) H
theorem ok_is_figure (T : Txt K mg) : FnOk P w K mg base CX0 2 T.a_is_figure T.d_is_figure p_is_figure (sp_is_figure K) := by
  refine T.F_is_figure.ok sc_is_figure (fun vs H Q E h => ?_) (fun cdv A outer s H vs Q E hr h => ?_)
  · obtain ⟨x, rfl, _⟩ := h
    rfl
  · obtain ⟨x, rfl, k, q⟩ := h
    refine ⟨_, pss_one (ps_ret (pe_and (pe_call (ok_is_whole T) hr (by rfl) T.g_is_whole T.F_is_whole.kp T.b_is_whole .nil pass0 (pa_cons (pv 0) pa_nil))
      (pe_one (pe_chain op_le op_le (pe_un un_neg pe_int) (pv 0) pe_int)))), ?_⟩
    refine ⟨x, rfl, x, rfl, k, _, rfl, ?_⟩
    cases x with
    | int i =>
      refine iteT ⟨1, rfl, .int i, rfl, _, _, rfl, rfl, _, rfl, ?_⟩
      by_cases h0 : -1 ≤ i
      · rw [decide_eq_true h0]
        refine iteT ⟨_, _, rfl, rfl, ?_⟩
        have e : figV (.int i) = decide (i ≤ 1) := by simp [figV, h0]
        rw [e] at q
        exact q
      · rw [decide_eq_false h0]
        have e : figV (.int i) = false := by simp [figV, h0]
        rw [e] at q
        exact iteF q
    | _ => exact iteF q
/-! ### is_row -/
/-- what a list of known things is told -/
def rowB (xs : List V) : Bool := xs.all figV && (xs.isEmpty || !decide (xs.getLast? = some (.int 0)))
def sp_is_row (K : PySem.W.Frag) : Sp := fun vs H Q _ => ∃ x, vs = [x] ∧
  ((∃ i b, Kind K H x i b false ∧ Q (.bl false) H) ∨ ∃ a xs, x = .ref a ∧ SqL K H a xs ∧ (∀ y ∈ xs, Plain K H y) ∧ xs.length ≤ 4000000 ∧ ∀ H', Same H H' → Q (.bl (rowB xs)) H')
theorem ok_is_row (T : Txt K mg) : FnOk P w K mg base CX0 3 T.a_is_row T.d_is_row p_is_row (sp_is_row K) := by
  refine T.F_is_row.ok sc_is_row (fun vs H Q E h => ?_) (fun cdv A outer s H vs Q E hr h => ?_)
  · obtain ⟨x, rfl, _⟩ := h
    rfl
  · obtain ⟨x, rfl, h⟩ := h
    refine ⟨_, pss_cons (ps_if (pt_not (pt_val (pe_callB call_isi (by rfl) T.z_isinstance (by decide +kernel) (pa_cons (pv 0) (pa_cons (pe_bltn (v := .ty "list") (by rfl) T.z_list (by decide +kernel) rfl) pa_nil))))) (pss_one (ps_ret pe_bl)) pss_nil)
      (pss_cons (ps_if (pt_not (pt_val (pe_callB (cr_all rfl) (by rfl) T.z_all (by decide +kernel) (pa_cons (pe_lc (own := [("item", 1)]) (g := gName 1) (tt := tYes) (by rfl) sc_is_row.nd (pi_list (pv 0)) (blkOk_by (N := ["thing", "item"]) (own := [("item", 1)]) (sc := defScope t_is_row) (by decide +kernel))
          (fun _ _ _ _ _ => pg_name (i := 1) sc_is_row.nd rfl (Or.inl rfl)) (fun _ _ _ _ _ => pts_nil)
          (fun _ _ _ _ _ => pe_call (ok_is_figure T) (by exact hr) (by rfl) T.g_is_figure T.F_is_figure.kp T.b_is_figure .nil pass0 (pa_cons (pv 1) pa_nil))) pa_nil)))) (pss_one (ps_ret pe_bl)) pss_nil)
      (pss_one (ps_ret (pe_or (pe_cmpR op_eq (pe_callB call_len_seq (by rfl) T.z_len PySem.boot_len (pa_cons (pv 0) pa_nil)) pe_int (nomark _))
        (pe_one (pe_cmpR op_ne (pe_ix ix_list (pv 0) (pe_un un_neg pe_int) (fun _ _ => rfl)) pe_int (nomark _))))))), ?_⟩
    rcases h with ⟨i, b, k, q⟩ | ⟨a, xs, rfl, hS, hp, hl, q⟩
    · obtain ⟨t, ty, _, _, h3⟩ := k.ex
      refine ⟨x, rfl, x, _, t, _, false, rfl, .ty _, ty, h3, false, rfl, ?_⟩
      exact iteT q
    · obtain ⟨t, ty, _, _, h3⟩ := (kind_list (K := K) (H := H) hS).ex
      refine ⟨.ref a, rfl, .ref a, _, t, _, true, rfl, .ty _, ty, h3, true, rfl, ?_⟩
      refine iteF ?_
      refine ⟨.ref a, rfl, a, rfl, ⟨_, hS⟩, fun D nD => ?_⟩
      have sD : ∀ ys, Same H (upd H D (.lst ys)) := fun ys => same_upd nD
      refine lc_list (K := K) (a := a) (xs := xs) (fun i H1 => H1 = upd H D (.lst ((xs.take i).map fun y => .bl (figV y)))) rfl (fun i H1 _ e => by rw [e]; exact (sD _).seq hS) (fun i y H1 hy e => ?_) (fun H1 e => ?_)
      · subst e
        have py := (hp y (List.mem_of_getElem? hy)).mono (sD ((xs.take i).map fun y => .bl (figV y)))
        refine ⟨rfl, y, rfl, y, rfl, py, _, upd_same, ?_, ?_⟩
        · rw [List.length_map, List.length_take]
          have : xs.length < sizeLine := Nat.lt_of_le_of_lt hl (by decide)
          omega
        · rw [upd_upd, List.take_add_one, hy, List.map_append]
          rfl
      · subst e
        rw [List.take_length]
        have hD : SqL K (upd H D (.lst (xs.map fun y => .bl (figV y)))) D ((xs.map figV).map V.bl) := by
          rw [List.map_map]
          exact SqL.of upd_same
        refine ⟨D, xs.map figV, rfl, hD, _, rfl, ?_⟩
        have ea : (xs.map figV).all id = xs.all figV := by
          rw [List.all_map]
          rfl
        rw [ea]
        have sH : Same H (upd H D (.lst (xs.map fun y => .bl (figV y)))) := sD _
        have q' := q _ sH
        cases hb : xs.all figV with
        | false =>
          have er : rowB xs = false := by simp [rowB, hb]
          rw [er] at q'
          exact iteT q'
        | true =>
          refine iteF ?_
          refine ⟨.ref a, rfl, a, xs, rfl, .inl (sH.seq hS), rfl, _, rfl, ?_⟩
          by_cases h0 : xs = []
          · subst h0
            refine iteT ?_
            exact q'
          · have hne : ¬ ((V.int (xs.length : Int)) = V.int 0) := fun z => h0 (List.length_eq_zero_iff.mp (by have := V.int.inj z; omega))
            rw [decide_eq_false hne]
            have hg := atI_getLast xs h0
            refine iteF ⟨.ref a, rfl, 1, rfl, a, xs, -1, _, rfl, rfl, sH.seq hS, hg, ?_⟩
            have hm : figV (xs.getLast h0) = true := List.all_eq_true.mp hb _ (List.getLast_mem h0)
            have er : rowB xs = !decide (xs.getLast h0 = .int 0) := by
              have e1 : xs.isEmpty = false := by simp [h0]
              simp [rowB, hb, e1, List.getLast?_eq_getLast h0]
            rw [er] at q'
            cases hv : xs.getLast h0 with
            | int j =>
              rw [hv] at q'
              exact ⟨rfl, q'⟩
            | _ => rw [hv] at hm; cases hm
/-! ### refuse_no_row, of rows -/
theorem row_all {ns : List Int} (r : Row ns) : (ns.map V.int).all figV = true := by
  rw [List.all_map, List.all_eq_true]
  intro n hn
  have := r.1 n hn
  simp [figV, this]
theorem row_yes {ns : List Int} (r : Row ns) : rowB (ns.map V.int) = true := by
  have h1 := row_all r
  have h2 : decide ((ns.map V.int).getLast? = some (.int 0)) = false := by
    rw [decide_eq_false_iff_not, List.getLast?_map]
    intro z
    cases e : ns.getLast? with
    | none => rw [e] at z; exact nomatch z
    | some n =>
      rw [e] at z
      have z2 : V.int n = V.int 0 := Option.some.inj z
      exact r.2 (by rw [e, V.int.inj z2])
  unfold rowB
  rw [h1, h2]
  simp
theorem RowAt.plain {K : PySem.W.Frag} {H : Hp} {ns : List Int} : ∀ y ∈ ns.map V.int, Plain K H y := fun y hy => by
  obtain ⟨n, _, rfl⟩ := List.mem_map.mp hy
  exact plain_int n
def sp_refuse (K : PySem.W.Frag) : Sp := fun vs H Q _ => ∃ a ns, vs = [.ref a] ∧ RowAt K H a ns ∧ ∀ H', Same H H' → Q .non H'
theorem ok_refuse_no_row (T : Txt K mg) : FnOk P w K mg base CX0 4 T.a_refuse_no_row T.d_refuse_no_row p_refuse_no_row (sp_refuse K) := by
  refine T.F_refuse_no_row.ok sc_refuse_no_row (fun vs H Q E h => ?_) (fun cdv A outer s H vs Q E hr h => ?_)
  · obtain ⟨x, _, rfl, _⟩ := h
    rfl
  · obtain ⟨a, ns, rfl, hS, q⟩ := h
    refine ⟨_, pss_one (ps_if (pt_not (pt_val (pe_call (ok_is_row T) hr (by rfl) T.g_is_row T.F_is_row.kp T.b_is_row .nil pass0 (pa_cons (pv 0) pa_nil)))) (pss_one ps_never) pss_nil), ?_⟩
    refine ⟨.ref a, rfl, .ref a, rfl, .inr ⟨a, ns.map V.int, rfl, hS.1, RowAt.plain, by rw [List.length_map]; exact hS.2.2, fun H' s' => ?_⟩⟩
    refine ⟨_, rfl, ?_⟩
    rw [row_yes hS.2.1]
    exact iteF (q _ s')
/-! ### refuse_no_number, of numbers -/
def sp_refuse_number : Sp := fun vs H Q _ => ∃ n : Int, vs = [.int n] ∧ Q .non H
theorem ok_refuse_no_number (T : Txt K mg) : FnOk P w K mg base CX0 2 T.a_refuse_no_number T.d_refuse_no_number p_refuse_no_number sp_refuse_number := by
  refine T.F_refuse_no_number.ok sc_refuse_no_number (fun vs H Q E h => ?_) (fun cdv A outer s H vs Q E hr h => ?_)
  · obtain ⟨_, rfl, _⟩ := h
    rfl
  · obtain ⟨n, rfl, q⟩ := h
    refine ⟨_, pss_one (ps_if (pt_not (pt_val (pe_call (ok_is_whole T) hr (by rfl) T.g_is_whole T.F_is_whole.kp T.b_is_whole .nil pass0 (pa_cons (pv 0) pa_nil)))) (pss_one ps_never) pss_nil), ?_⟩
    refine ⟨.int n, rfl, .int n, rfl, plain_int n, _, rfl, ?_⟩
    exact iteF q
/-! ### marked -/
def sp_marked (K : PySem.W.Frag) : Sp := fun vs H Q _ => ∃ a ns f, vs = [.ref a, .int f] ∧ SqL K H a (ns.map V.int) ∧ ns.length ≤ 4000000 ∧ ∀ H', Same H H' → Q (.int ((mk f ns : Nat) : Int)) H'
theorem ok_marked (T : Txt K mg) : FnOk P w K mg base CX0 1 T.a_marked T.d_marked p_marked (sp_marked K) := by
  refine T.F_marked.ok sc_marked (fun vs H Q E h => ?_) (fun cdv A outer s H vs Q E hr h => ?_)
  · obtain ⟨_, _, _, rfl, _⟩ := h
    rfl
  · obtain ⟨a, ns, f, rfl, hS, hl, q⟩ := h
    refine ⟨_, pss_cons (ps_setLc (i := 2) (own := [("item", 3)]) (g := gName 3) (tt := tYes) (by rfl) sc_marked.nd rfl rfl (sw_true rfl rfl rfl (by decide +kernel)) (pi_reversed (by rfl) T.z_reversed (pa_cons (pv 0) pa_nil))
        (blkOk_by (N := ["row", "figure", "marks", "item"]) (own := [("item", 3)]) (sc := defScope t_marked) (by decide +kernel))
        (fun _ _ _ _ _ => pg_name (i := 3) sc_marked.nd rfl (Or.inl rfl)) (fun _ _ _ _ _ => pts_nil)
        (fun _ _ _ _ _ => pe_ifExp (pt_cmpR op_eq (pv 3) (pv 1) (nomark _)) pe_str pe_str))
      (pss_one (ps_ret (pe_callTy (call_int2 T.digits) (by rfl) T.z_int (by decide +kernel) (pa_cons (pe_op op_add_str pe_str (pe_join pe_str (pv 2))) (pa_cons pe_int pa_nil))))), ?_⟩
    refine ⟨.ref a, rfl, a, ns.map V.int, rfl, hS, fun D nD => ?_⟩
    have sD : ∀ ys, Same H (upd H D (.lst ys)) := fun ys => same_upd nD
    have el : (ns.map V.int).length = ns.length := List.length_map ..
    refine ⟨fun i m H1 => i + m = ns.length ∧ H1 = upd H D (.lst (((ns.reverse.take i).map fun n => .str (sign1 (sg f n))))), ⟨ns.length, by omega, rfl⟩, fun i m H1 hW => ?_⟩
    obtain ⟨em, rfl⟩ := hW
    by_cases hi : i < ns.length
    · have hj : ns.length - 1 - i < ns.length := by omega
      have g : (ns.map V.int)[(ns.map V.int).length - 1 - i]? = some (.int ns[ns.length - 1 - i]) := by
        rw [el, List.getElem?_map, List.getElem?_eq_getElem hj]
        rfl
      have gr : ns.reverse[i]? = some ns[ns.length - 1 - i] := by
        rw [List.getElem?_reverse hi, List.getElem?_eq_getElem hj]
      refine .inr ⟨⟨by rw [el]; exact hi, _, _, (sD _).seq hS, g⟩, fun H' => H' = upd H D (.lst (((ns.reverse.take (i + 1)).map fun n => .str (sign1 (sg f n))))), fun H' e => ⟨m - 1, by omega, by omega, e⟩, fun x H' hy => ?_⟩
      obtain ⟨rfl, fx⟩ := hy
      have ex := Option.some.inj ((fx _ ((sD _).seq hS)).symm.trans g)
      subst ex
      have fin : ∀ z : V, z = .str (sign1 (sg f ns[ns.length - 1 - i])) → ∃ acc, (upd H D (.lst (((ns.reverse.take i).map fun n => .str (sign1 (sg f n)))))) D = some (.lst acc) ∧ acc.length < sizeLine ∧
          upd (upd H D (.lst (((ns.reverse.take i).map fun n => .str (sign1 (sg f n)))))) D (.lst (acc ++ [z])) = upd H D (.lst (((ns.reverse.take (i + 1)).map fun n => .str (sign1 (sg f n))))) := fun z ez => by
        subst ez
        refine ⟨_, upd_same, ?_, ?_⟩
        · rw [List.length_map, List.length_take]
          have : ns.length < sizeLine := Nat.lt_of_le_of_lt hl (by decide)
          omega
        · rw [upd_upd, List.take_add_one, gr, List.map_append]
          rfl
      refine ⟨rfl, .int ns[ns.length - 1 - i], rfl, .int f, rfl, rfl, _, rfl, ?_⟩
      by_cases hf : ns[ns.length - 1 - i] = f
      · rw [decide_eq_true (show V.int ns[ns.length - 1 - i] = V.int f by rw [hf])]
        refine iteT (fin _ ?_)
        rw [show sg f ns[ns.length - 1 - i] = 49 from if_pos hf]
        rfl
      · rw [decide_eq_false (show ¬ V.int ns[ns.length - 1 - i] = V.int f from fun z => hf (V.int.inj z))]
        refine iteF (fin _ ?_)
        rw [show sg f ns[ns.length - 1 - i] = 48 from if_neg hf]
        rfl
    · refine .inl ⟨(show (ns.map V.int).length ≤ i by rw [el]; omega), ?_⟩
      have et : ns.reverse.take i = ns.reverse := List.take_of_length_le (by rw [List.length_reverse]; omega)
      rw [et]
      have hD : SqL K (upd H D (.lst (ns.reverse.map fun n => V.str (sign1 (sg f n))))) D (((ns.reverse.map (sg f)).map sign1).map V.str) := by
        rw [List.map_map, List.map_map]
        exact SqL.of upd_same
      have e1 := joined_signs Str.empty rfl (ns.reverse.map (sg f))
      have l1 : (Txt.join Str.empty ((ns.reverse.map (sg f)).map sign1)).length = ns.length := by
        have := congrArg List.length e1
        rw [Array.length_toList, List.length_map, List.length_reverse] at this
        exact this
      have lim : (16777216 : Nat) = sizeLine := by decide
      refine ⟨⟨_, rfl⟩, .ref D, rfl, Str.empty, D, (ns.reverse.map (sg f)).map sign1, rfl, rfl, .inl hD, ?_, _, _, rfl, rfl, ?_, ?_⟩
      · have e2 : (((ns.reverse.map (sg f)).map sign1).map (·.length)) = List.replicate ns.length 1 := by
          rw [List.map_map, List.map_map]
          refine List.eq_replicate_iff.mpr ⟨by rw [List.length_map, List.length_reverse], fun b hb => ?_⟩
          obtain ⟨n, _, rfl⟩ := List.mem_map.mp hb
          rfl
        rw [e2, List.sum_replicate_nat]
        show ns.length * 1 + _ * 0 ≤ 16777216
        omega
      · rw [l1]
        show 1 + ns.length ≤ sizeLine
        omega
      · have e3 : ((("0" : Str) ++ Txt.join Str.empty ((ns.reverse.map (sg f)).map sign1))).cps.toList = 48 :: (ns.reverse.map (sg f)) := by
          rw [app_list, e1]
          rfl
        refine ⟨_, rfl, ?_, ?_, ?_⟩
        · rw [e3]
          exact sg_bits f ns.reverse
        · rw [e3]
          exact fun z => nomatch z
        · rw [e3, sg_val]
          exact q _ (sD _)
/-! ### worth -/
def sp_worth (K : PySem.W.Frag) : Sp := fun vs H Q _ => ∃ a ns, vs = [.ref a] ∧ RowAt K H a ns ∧ ∀ H', Same H H' → Q (.int (val ns)) H'
theorem ok_worth (T : Txt K mg) : FnOk P w K mg base CX0 5 T.a_worth T.d_worth p_worth (sp_worth K) := by
  refine T.F_worth.ok sc_worth (fun vs H Q E h => ?_) (fun cdv A outer s H vs Q E hr h => ?_)
  · obtain ⟨_, _, rfl, _⟩ := h
    rfl
  · obtain ⟨a, ns, rfl, hS, q⟩ := h
    refine ⟨_, pss_cons (ps_expr (pe_call (ok_refuse_no_row T) hr (by rfl) T.g_refuse_no_row T.F_refuse_no_row.kp T.b_refuse_no_row .nil pass0 (pa_cons (pv 0) pa_nil)))
      (pss_one (ps_ret (pe_op op_sub (pe_call (ok_marked T) (hr.mono (by decide)) (by rfl) T.g_marked T.F_marked.kp T.b_marked .nil pass0 (pa_cons (pv 0) (pa_cons pe_int pa_nil)))
        (pe_call (ok_marked T) (hr.mono (by decide)) (by rfl) T.g_marked T.F_marked.kp T.b_marked .nil pass0 (pa_cons (pv 0) (pa_cons (pe_un un_neg pe_int) pa_nil)))))), ?_⟩
    refine ⟨.ref a, rfl, a, ns, rfl, hS, fun H1 s1 => ?_⟩
    refine ⟨.ref a, rfl, a, ns, 1, rfl, s1.seq hS.1, hS.2.2, fun H2 s2 => ?_⟩
    refine ⟨.ref a, rfl, 1, rfl, a, ns, -1, rfl, s2.seq (s1.seq hS.1), hS.2.2, fun H3 s3 => ?_⟩
    refine ⟨_, _, rfl, rfl, ?_⟩
    show Q (.int (((mk 1 ns : Nat) : Int) - ((mk (-1) ns : Nat) : Int))) H3
    rw [mk_val ns hS.2.1.1]
    exact q _ (s1.trans (s2.trans s3))
/-! ### places -/
def sp_places (K : PySem.W.Frag) : Sp := fun vs H Q _ => ∃ (x L : Nat), vs = [.int (x : Int), .int ((L + 1 : Nat) : Int)] ∧ x < 2 ^ (L + 1) ∧ L + 1 ≤ 4000000 ∧ ∀ y : Str, y.cps.toList = bitsLE (L + 1) x → Q (.str y) H
theorem ok_places (T : Txt K mg) : FnOk P w K mg base CX0 1 T.a_places T.d_places p_places (sp_places K) := by
  refine T.F_places.ok sc_places (fun vs H Q E h => ?_) (fun cdv A outer s H vs Q E hr h => ?_)
  · obtain ⟨_, _, rfl, _⟩ := h
    rfl
  · obtain ⟨x, L, rfl, hx, hL, q⟩ := h
    refine ⟨_, pss_cons (ps_set (i := 2) sc_places.nd rfl (.inl rfl) (pe_joined1 (pe_fmtB (pv 0))))
      (pss_one (ps_ret (pe_revT (pe_bm PySem.F.plainAttrs_str PySem.F.slot_str_zfill PySem.F.type_str_zfill mt_zfill (pv 2) (pa_cons (pv 1) pa_nil))))), ?_⟩
    obtain ⟨l1, l2⟩ := digs_bits L x hx
    have lt := binText_len x
    have lim : (4000001 : Nat) ≤ sizeLine := by decide
    refine ⟨.int x, rfl, (x : Int), rfl, by omega, ?_⟩
    have hf := filled hx
    have lf : (Txt.zfill (XB.binText (x : Int)) ((L + 1 : Nat) : Int)).length = L + 1 := by
      have := congrArg List.length hf
      rw [List.length_reverse, Array.length_toList, bitsLE_len] at this
      exact this
    refine ⟨.str (XB.binText (x : Int)), rfl, rfl, .int ((L + 1 : Nat) : Int), rfl, XB.binText (x : Int), ((L + 1 : Nat) : Int), rfl, rfl, ?_, _, rfl, by rw [lf]; omega, fun y hy => ?_⟩
    · unfold PadOk fitsSsize
      rw [Bool.and_eq_true]
      refine ⟨?_, ?_⟩
      · simp
        omega
      · have : Builtin.Str.tooLong (L + 1) = false := by
          unfold Builtin.Str.tooLong
          simp
          omega
        rw [Int.toNat_natCast, this]
        rfl
    · rw [hf] at hy
      exact q y hy
/-! ### lean_parts -/
def upsOf (n : Int) : Int := PySem.Builtin.bitAnd (n + n / 2) (PySem.Builtin.bitXor (n + n / 2) (n / 2))
def downsOf (n : Int) : Int := PySem.Builtin.bitAnd (n / 2) (PySem.Builtin.bitXor (n + n / 2) (n / 2))
theorem ups_pos (n : Int) : 0 ≤ upsOf n ∧ 0 ≤ downsOf n := by
  obtain ⟨x0, _⟩ := lean_facts (n := n) (N := n.natAbs) Nat.lt_two_pow_self
  exact ⟨(and_bounds x0).1, (and_bounds x0).1⟩
def sp_lean_parts : Sp := fun vs H Q _ => ∃ n : Int, vs = [.int n] ∧ ∀ H' p, Same H H' → H p = none → H' p = some (.tup [.int (upsOf n), .int (downsOf n)]) → Q (.ref p) H'
theorem ok_lean_parts (T : Txt K mg) : FnOk P w K mg base CX0 1 T.a_lean_parts T.d_lean_parts p_lean_parts sp_lean_parts := by
  refine T.F_lean_parts.ok sc_lean_parts (fun vs H Q E h => ?_) (fun cdv A outer s H vs Q E hr h => ?_)
  · obtain ⟨_, rfl, _⟩ := h
    rfl
  · obtain ⟨n, rfl, q⟩ := h
    refine ⟨_, pss_cons (ps_set (i := 1) sc_lean_parts.nd rfl (.inl rfl) (pe_op op_shr (pv 0) pe_int))
      (pss_cons (ps_set (i := 2) sc_lean_parts.nd rfl (.inl rfl) (pe_op op_add (pv 0) (pv 1)))
      (pss_cons (ps_set (i := 3) sc_lean_parts.nd rfl (.inl rfl) (pe_op op_xor (pv 2) (pv 1)))
      (pss_one (ps_ret (pe_tup (pa_cons (pe_op op_and (pv 2) (pv 3)) (pa_cons (pe_op op_and (pv 1) (pv 3)) pa_nil))))))), ?_⟩
    refine ⟨.int n, rfl, _, _, rfl, rfl, (by show (0 : Int) ≤ 1; decide), ?_⟩
    refine ⟨.int n, rfl, .int (n / 2), rfl, _, _, rfl, rfl, ?_⟩
    refine ⟨.int (n + n / 2), rfl, .int (n / 2), rfl, _, _, rfl, rfl, ?_⟩
    refine ⟨.int (n + n / 2), rfl, .int (PySem.Builtin.bitXor (n + n / 2) (n / 2)), rfl, _, _, rfl, rfl, .int (n / 2), rfl, .int (PySem.Builtin.bitXor (n + n / 2) (n / 2)), rfl, _, _, rfl, rfl, (by show 2 ≤ sizeLine; decide), fun p np => ?_⟩
    exact q _ p (same_upd np) np upd_same
/-! ### lean -/
theorem int_bit {c : Nat} (h : c = 48 ∨ c = 49) : PySem.intText? (sign1 c) = some ((c : Int) - 48) := by
  rcases h with e | e <;> subst e <;> decide +kernel
def sp_lean (K : PySem.W.Frag) : Sp := fun vs H Q _ => ∃ (n : Int) (N : Nat), vs = [.int n] ∧ n.natAbs < 2 ^ N ∧ N ≤ 3000000 ∧
  ∀ H' p r, Same H H' → H p = none → Row r → gaps r = true → val r = n → r.length ≤ N + 1 → H' p = some (.lst (r.map V.int)) → Q (.ref p) H'
theorem ok_lean (T : Txt K mg) : FnOk P w K mg base CX0 3 T.a_lean T.d_lean p_lean (sp_lean K) := by
  refine T.F_lean.ok sc_lean (fun vs H Q E h => ?_) (fun cdv A outer s H vs Q E hr h => ?_)
  · obtain ⟨_, _, rfl, _⟩ := h
    rfl
  · obtain ⟨n, N, rfl, hn, hN, q⟩ := h
    refine ⟨_, pss_cons (ps_expr (pe_call (ok_refuse_no_number T) hr (by rfl) T.g_refuse_no_number T.F_refuse_no_number.kp T.b_refuse_no_number .nil pass0 (pa_cons (pv 0) pa_nil)))
      (pss_cons (ps_if (pt_cmpR op_eq (pv 0) pe_int (nomark _)) (pss_one (ps_ret (pe_lst pa_nil))) pss_nil)
      (pss_cons (ps_asg (pe_call (ok_lean_parts T) (hr.mono (by decide)) (by rfl) T.g_lean_parts T.F_lean_parts.kp T.b_lean_parts .nil pass0 (pa_cons (pv 0) pa_nil)) (pg_tup rfl (pgs_cons (pg_name (i := 1) sc_lean.nd rfl (.inl rfl)) (pgs_cons (pg_name (i := 2) sc_lean.nd rfl (.inl rfl)) pgs_nil))))
      (pss_cons (ps_set (i := 3) sc_lean.nd rfl (.inl rfl) (pe_bits (pe_callB (call_max2 rfl) (by rfl) T.z_max (by decide +kernel) (pa_cons (pv 1) (pa_cons (pv 2) pa_nil)))))
      (pss_one (ps_ret (pe_lc (own := [("up", 4), ("down", 5)]) (g := gTup K 2 (gCons (gName 4) (gCons (gName 5) gNil))) (tt := tYes) (by rfl) sc_lean.nd (pi_zipS (by rfl) T.z_zip (pa_cons (pe_call (ok_places T) (hr.mono (by decide)) (by rfl) T.g_places T.F_places.kp T.b_places .nil pass0 (pa_cons (pv 1) (pa_cons (pv 3) pa_nil))) (pa_cons (pe_call (ok_places T) (hr.mono (by decide)) (by rfl) T.g_places T.F_places.kp T.b_places .nil pass0 (pa_cons (pv 2) (pa_cons (pv 3) pa_nil))) pa_nil)))
          (blkOk_by (N := ["number", "ups", "downs", "many", "up", "down"]) (own := [("up", 4), ("down", 5)]) (sc := defScope t_lean) (by decide +kernel))
          (fun _ _ _ _ _ => by exact pg_tup rfl (pgs_cons (pg_name (i := 4) sc_lean.nd rfl (Or.inl rfl)) (pgs_cons (pg_name (i := 5) sc_lean.nd rfl (Or.inl rfl)) pgs_nil)))
          (fun _ _ _ _ _ => pts_nil)
          (fun _ _ _ _ _ => pe_op op_sub (pe_callTy call_int_str (by rfl) T.z_int (by decide +kernel) (pa_cons (pv 4) pa_nil)) (pe_callTy call_int_str (by rfl) T.z_int (by decide +kernel) (pa_cons (pv 5) pa_nil))))))))), ?_⟩
    refine ⟨.int n, rfl, n, rfl, ?_⟩
    refine ⟨.int n, rfl, rfl, _, rfl, ?_⟩
    by_cases h0 : n = 0
    · subst h0
      rw [decide_eq_true rfl]
      refine iteT ⟨Nat.zero_le _, fun p np => ?_⟩
      exact q _ p [] (same_upd np) np ⟨(fun _ hm => nomatch hm), fun z => nomatch z⟩ rfl rfl (Nat.zero_le _) upd_same
    · rw [decide_eq_false (show ¬ V.int n = V.int 0 from fun z => h0 (V.int.inj z))]
      refine iteF ?_
      obtain ⟨L, hb, hL, ha, hd, rr, rg, rv⟩ := XParts.parts_row h0 hn
      obtain ⟨x0, _⟩ := lean_facts hn
      have ed : List.zipWith (fun a b : Nat => (a : Int) - (b : Int)) (bitsLE (L + 1) (upsOf n).toNat) (bitsLE (L + 1) (downsOf n).toNat) = dig (L + 1) (n + n / 2) (n / 2) := bits_dig (L + 1) (n + n / 2) (n / 2) x0
      obtain ⟨a0, b0⟩ := ups_pos n
      refine ⟨.int n, rfl, n, rfl, fun H0 p0 s0 np0 e0 => ?_⟩
      refine ⟨p0, _, rfl, SqT.of e0, rfl, _, _, rfl, _, _, rfl, rfl, ?_⟩
      refine ⟨.int (upsOf n), rfl, .int (downsOf n), rfl, upsOf n, downsOf n, rfl, _, rfl, ?_⟩
      have hb' : Builtin.Int.intBits (if downsOf n > upsOf n then downsOf n else upsOf n) = L + 1 := hb
      rw [hb']
      refine ⟨.int (upsOf n), rfl, .int ((L + 1 : Nat) : Int), rfl, (upsOf n).toNat, L, ?_, ha, by omega, fun y1 e1 => ?_⟩
      · rw [Int.toNat_of_nonneg a0]
        rfl
      refine ⟨.int (downsOf n), rfl, .int ((L + 1 : Nat) : Int), rfl, (downsOf n).toNat, L, ?_, hd, by omega, fun y2 e2 => ?_⟩
      · rw [Int.toNat_of_nonneg b0]
        rfl
      refine ⟨y1, y2, rfl, fun D nD => ?_⟩
      have z1 : y1.cps.size = L + 1 := by
        have := congrArg List.length e1
        rw [Array.length_toList, bitsLE_len] at this
        exact this
      have z2 : y2.cps.size = L + 1 := by
        have := congrArg List.length e2
        rw [Array.length_toList, bitsLE_len] at this
        exact this
      have ld := dig_len (L + 1) (n + n / 2) (n / 2)
      generalize dig (L + 1) (n + n / 2) (n / 2) = R at ed rr rg rv ld
      have nD' : H D = none := XParts.none_back s0 nD
      refine ⟨fun i m H3 => i + m = L + 1 ∧ Same H H3 ∧ H3 D = some (.lst ((R.take i).map V.int)), ⟨L + 1, by omega, s0.trans (same_upd nD), upd_same⟩, fun i m H3 hW => ?_⟩
      obtain ⟨em, s3, eD⟩ := hW
      by_cases hi : i < L + 1
      · refine .inr ⟨⟨by rw [z1]; exact hi, by rw [z2]; exact hi⟩, fun H' => Same H H' ∧ H' D = some (.lst ((R.take (i + 1)).map V.int)), fun H' e => ⟨m - 1, by omega, by omega, e⟩, fun x H' hy => ?_⟩
        obtain ⟨t, c, d, rfl, nt, rfl, ec, ee⟩ := hy
        rw [← Array.getElem?_toList, e1] at ec
        rw [← Array.getElem?_toList, e2] at ee
        obtain ⟨c', hc1, hc2⟩ := bitsLE_get (L + 1) (upsOf n).toNat i hi
        obtain ⟨d', hd1, hd2⟩ := bitsLE_get (L + 1) (downsOf n).toNat i hi
        have cc : c = c' := Option.some.inj (ec.symm.trans hc1)
        have dd : d = d' := Option.some.inj (ee.symm.trans hd1)
        subst cc
        subst dd
        have gR : R[i]? = some ((c : Int) - (d : Int)) := by
          rw [← ed, List.getElem?_zipWith, ec, ee]
        have sT : Same H3 (upd H3 t (.tup [.str (sign1 c), .str (sign1 d)])) := same_upd nt
        have eT := sT _ _ eD
        refine ⟨t, [.str (sign1 c), .str (sign1 d)], rfl, SqT.of upd_same, rfl, _, _, rfl, _, _, rfl, rfl, rfl, ?_⟩
        refine ⟨.str (sign1 c), rfl, sign1 c, _, rfl, int_bit hc2, (by show 1 ≤ 640; decide), .str (sign1 d), rfl, sign1 d, _, rfl, int_bit hd2, (by show 1 ≤ 640; decide), _, _, rfl, rfl, _, eT, ?_, fun b o e => ?_, ?_⟩
        · rw [List.length_map, List.length_take]
          have : L + 1 < sizeLine := Nat.lt_of_le_of_lt (show L + 1 ≤ 3000001 by omega) (by decide)
          omega
        · have nb : b ≠ D := ne_of_none e nD'
          rw [upd_ne nb]
          exact sT _ _ (s3 _ _ e)
        · rw [upd_same, List.take_add_one, gR, List.map_append]
          have ez : (c : Int) - 48 - ((d : Int) - 48) = (c : Int) - (d : Int) := by omega
          show some (HO.lst (_ ++ [V.int ((c : Int) - 48 - ((d : Int) - 48))])) = _
          rw [ez]
          rfl
      · refine .inl ⟨.inl (by rw [z1]; omega), ?_⟩
        have et : R.take i = R := List.take_of_length_le (by omega)
        rw [et] at eD
        exact q H3 D R s3 nD' rr rg rv (by omega) eD
/-! ### the law's cell_at -/
def cell (ns : List Int) (k : Nat) : Int := ns.getD k 0
def sp_Lcell_at (K : PySem.W.Frag) : Sp := fun vs H Q _ => ∃ (a : Addr) (ns : List Int) (k : Nat), vs = [.ref a, .int (k : Int)] ∧ SqL K H a (ns.map V.int) ∧ Q (.int (cell ns k)) H
theorem ok_Lcell_at (T : Txt K mg) : FnOk P w K mg base CX0 1 T.a_Lcell_at T.d_Lcell_at p_Lcell_at (sp_Lcell_at K) := by
  refine T.F_Lcell_at.ok sc_Lcell_at (fun vs H Q E h => ?_) (fun cdv A outer s H vs Q E hr h => ?_)
  · obtain ⟨_, _, _, rfl, _⟩ := h
    rfl
  · obtain ⟨a, ns, k, rfl, hS, q⟩ := h
    refine ⟨_, pss_cons (ps_if (pt_cmpR op_lt (pv 1) (pe_callB call_len_seq (by rfl) T.z_len PySem.boot_len (pa_cons (pv 0) pa_nil)) (nomark _)) (pss_one (ps_ret (pe_ix ix_list (pv 0) (pv 1) (fun _ _ => rfl)))) pss_nil)
      (pss_one (ps_ret pe_int)), ?_⟩
    refine ⟨.int k, rfl, .ref a, rfl, a, ns.map V.int, rfl, .inl hS, _, _, rfl, rfl, _, rfl, ite2 (fun c => ?_) (fun c => ?_)⟩
    · have c' : (k : Int) < ((ns.map V.int).length : Int) := of_decide_eq_true c
      rw [List.length_map] at c'
      have hk : k < ns.length := by omega
      have g : (ns.map V.int)[k]? = some (.int ns[k]) := by
        rw [List.getElem?_map, List.getElem?_eq_getElem hk]
        rfl
      refine ⟨.ref a, rfl, .int k, rfl, a, _, (k : Int), .int ns[k], rfl, rfl, hS, atI_nat g, ?_⟩
      have e : cell ns k = ns[k] := by simp [cell, List.getD, hk]
      rw [e] at q
      exact q
    · have c' : ¬ (k : Int) < ((ns.map V.int).length : Int) := fun z => c (decide_eq_true z)
      rw [List.length_map] at c'
      have hk : ns.length ≤ k := by omega
      have e : cell ns k = 0 := by simp [cell, List.getD, hk]
      rw [e] at q
      exact q
/-! ### the law's mixed -/
def mixA (c : Int) : Int := (c % 1000000007 + 1) * 48271 % 2147483647
def mixd (c k : Int) : Int := mixA c * (16807 + 7919 * k * k + 31 * k) % 2147483629 / 7
theorem mixA_b (c : Int) : 0 ≤ mixA c ∧ mixA c < 2147483647 := ⟨Int.emod_nonneg _ (by decide), Int.emod_lt_of_pos _ (by decide)⟩
theorem mixd_b (c k : Int) : 0 ≤ mixd c k ∧ mixd c k < 2147483629 := by
  have h1 := Int.emod_nonneg (mixA c * (16807 + 7919 * k * k + 31 * k)) (show (2147483629 : Int) ≠ 0 by decide)
  have h2 := Int.emod_lt_of_pos (mixA c * (16807 + 7919 * k * k + 31 * k)) (show (0 : Int) < 2147483629 by decide)
  unfold mixd
  omega
def sp_Lmixed (K : PySem.W.Frag) : Sp := fun vs H Q _ => ∃ c k : Int, vs = [.int c, .int k] ∧ 0 ≤ k ∧ k ≤ 1000 ∧ Q (.int (mixd c k)) H
theorem ok_Lmixed (T : Txt K mg) : FnOk P w K mg base CX0 1 T.a_Lmixed T.d_Lmixed p_Lmixed (sp_Lmixed K) := by
  refine T.F_Lmixed.ok sc_Lmixed (fun vs H Q E h => ?_) (fun cdv A outer s H vs Q E hr h => ?_)
  · obtain ⟨_, _, rfl, _⟩ := h
    rfl
  · obtain ⟨c, k, rfl, h0, h1, q⟩ := h
    refine ⟨_, pss_cons (ps_set (i := 2) sc_Lmixed.nd rfl (.inl rfl) (pe_op op_mod (pe_op op_mul (pe_op op_add (pe_op op_mod (pv 0) pe_int) pe_int) pe_int) pe_int))
      (pss_one (ps_ret (pe_op op_fdiv (pe_op op_mod (pe_op op_mul (pv 2) (pe_op op_add (pe_op op_add pe_int (pe_op op_mul (pe_op op_mul pe_int (pv 1)) (pv 1))) (pe_op op_mul pe_int (pv 1)))) pe_int) pe_int))), ?_⟩
    have b1 := Int.emod_nonneg c (show (1000000007 : Int) ≠ 0 by decide)
    have b2 := Int.emod_lt_of_pos c (show (0 : Int) < 1000000007 by decide)
    refine ⟨.int c, rfl, _, _, rfl, rfl, (by show (0 : Int) < 1000000007; decide), _, _, rfl, rfl, _, _, rfl, rfl, .inr (by show -(2 ^ 64 : Int) < 48271 ∧ (48271 : Int) < 2 ^ 64; decide), _, _, rfl, rfl, (by show (0 : Int) < 2147483647; decide), ?_⟩
    have b3 := mixA_b c
    refine ⟨.int (mixA c), rfl, .int k, rfl, _, _, rfl, rfl, .inl (by show -(2 ^ 64 : Int) < 7919 ∧ (7919 : Int) < 2 ^ 64; decide), .int k, rfl, _, _, rfl, rfl, .inr (by show -(2 ^ 64 : Int) < k ∧ k < 2 ^ 64; omega), _, _, rfl, rfl, .int k, rfl, _, _, rfl, rfl, .inl (by show -(2 ^ 64 : Int) < 31 ∧ (31 : Int) < 2 ^ 64; decide),
      _, _, rfl, rfl, _, _, rfl, rfl, .inl (by show -(2 ^ 64 : Int) < mixA c ∧ mixA c < 2 ^ 64; omega), _, _, rfl, rfl, (by show (0 : Int) < 2147483629; decide), _, _, rfl, rfl, ⟨by decide, by decide⟩, ?_⟩
    exact q
/-! ### the law's whole -/
def sp_Lwhole (K : PySem.W.Frag) : Sp := fun vs H Q _ => ∃ x, vs = [x] ∧ Plain K H x ∧ Q (.bl (intV x)) H
theorem ok_Lwhole (T : Txt K mg) : FnOk P w K mg base CX0 1 T.a_Lwhole T.d_Lwhole p_Lwhole (sp_Lwhole K) := by
  refine T.F_Lwhole.ok sc_Lwhole (fun vs H Q E h => ?_) (fun cdv A outer s H vs Q E hr h => ?_)
  · obtain ⟨x, rfl, _⟩ := h
    rfl
  · obtain ⟨x, rfl, ⟨i, b, l, k, e⟩, q⟩ := h
    obtain ⟨t, ty, h1, h2, _⟩ := k.ex
    refine ⟨_, pss_one (ps_ret (pe_and (pe_callB call_isi (by rfl) T.z_isinstance (by decide +kernel) (pa_cons (pv 0) (pa_cons (pe_bltn (v := .ty "int") (by rfl) T.z_int (by decide +kernel) rfl) pa_nil)))
      (pe_one (pe_not (pe_callB call_isi (by rfl) T.z_isinstance (by decide +kernel) (pa_cons (pv 0) (pa_cons (pe_bltn (v := .ty "bool") (by rfl) T.z_bool (by decide +kernel) rfl) pa_nil))))))), ?_⟩
    refine ⟨x, rfl, x, _, t, _, i, rfl, .ty _, ty, h1, i, rfl, ?_⟩
    cases i with
    | true => exact iteT ⟨x, rfl, x, _, t, _, b, rfl, .ty _, ty, h2, b, rfl, by rw [← e] at q; exact q⟩
    | false => exact iteF (by rw [← e] at q; exact q)
/-! ### the law's worth -/
def sp_Lworth (K : PySem.W.Frag) : Sp := fun vs H Q _ => ∃ (a : Addr) (ns : List Int), vs = [.ref a] ∧ SqL K H a (ns.map V.int) ∧ (∀ n ∈ ns, -1 ≤ n ∧ n ≤ 1) ∧ ns.length ≤ 4000000 ∧ Q (.int (val ns)) H
theorem ok_Lworth (T : Txt K mg) : FnOk P w K mg base CX0 1 T.a_Lworth T.d_Lworth p_Lworth (sp_Lworth K) := by
  refine T.F_Lworth.ok sc_Lworth (fun vs H Q E h => ?_) (fun cdv A outer s H vs Q E hr h => ?_)
  · obtain ⟨_, _, rfl, _⟩ := h
    rfl
  · obtain ⟨a, ns, rfl, hS, hb, hl, q⟩ := h
    refine ⟨_, pss_cons (ps_set (i := 1) sc_Lworth.nd rfl (.inl rfl) pe_int) (pss_cons (ps_set (i := 2) sc_Lworth.nd rfl (.inl rfl) pe_int)
      (pss_cons (ps_for PassesOwn.never rfl (pi_list (pv 0)) (pg_name (i := 3) sc_Lworth.nd rfl (.inl rfl))
        (pss_cons (ps_set (i := 1) sc_Lworth.nd rfl (.inl rfl) (pe_op op_add (pv 1) (pe_op op_mul (pv 3) (pv 2))))
        (pss_one (ps_set (i := 2) sc_Lworth.nd rfl (.inl rfl) (pe_op op_mul (pv 2) pe_int)))))
      (pss_one (ps_ret (pv 1))))), ?_⟩
    refine ⟨.ref a, rfl, a, rfl, ⟨_, hS⟩, ?_⟩
    refine for_list (xs := ns.map V.int) (fun i σ H1 => H1 = H ∧ ∃ y, σ = [some (.ref a), some (.int (val (ns.take i))), some (.int (2 ^ i)), y]) ⟨rfl, _, rfl⟩ (fun i σ H1 _ e => by rw [e.1]; exact hS) (fun i x σ H1 hx e => ?_) (fun σ H1 e => ?_)
    · obtain ⟨rfl, y, rfl⟩ := e
      have hi : i < ns.length := by
        have := (List.getElem?_eq_some_iff.mp hx).1
        rwa [List.length_map] at this
      have ex : x = .int ns[i] := by
        rw [List.getElem?_map, List.getElem?_eq_getElem hi] at hx
        exact (Option.some.inj hx).symm
      subst ex
      have hn := hb ns[i] (List.getElem_mem hi)
      refine ⟨_, rfl, _, rfl, _, rfl, _, _, rfl, rfl, .inl (by show -(2 ^ 64 : Int) < ns[i] ∧ ns[i] < 2 ^ 64; omega), _, _, rfl, rfl, ?_⟩
      refine ⟨_, rfl, _, _, rfl, rfl, .inr (by show -(2 ^ 64 : Int) < 2 ∧ (2 : Int) < 2 ^ 64; decide), ?_⟩
      refine ⟨rfl, some (.int ns[i]), ?_⟩
      rw [val_take hi]
      rfl
    · obtain ⟨rfl, y, rfl⟩ := e
      have e2 : ns.take (ns.map V.int).length = ns := by
        rw [List.length_map, List.take_length]
      rw [e2]
      exact ⟨_, rfl, q⟩
/-! ### the law's is_lean, of rows -/
/-- up to a place: of each two neighbours one is 0 -/
def apartTo (ns : List Int) (i : Nat) : Prop := ∀ j, 0 < j → j < i → ns.getD j 0 = 0 ∨ ns.getD (j - 1) 0 = 0
theorem gaps_iff : ∀ ns : List Int, gaps ns = true ↔ apartTo ns ns.length
  | [] => ⟨fun _ j _ h => absurd h (Nat.not_lt_zero _), fun _ => rfl⟩
  | [x] => ⟨fun _ j h0 h => by
      have : j < 1 := h
      omega, fun _ => rfl⟩
  | x :: y :: r => by
    have ih := gaps_iff (y :: r)
    have e : gaps (x :: y :: r) = ((decide (x = 0) || decide (y = 0)) && gaps (y :: r)) := rfl
    rw [e, Bool.and_eq_true, Bool.or_eq_true, decide_eq_true_eq, decide_eq_true_eq]
    constructor
    · rintro ⟨h1, h2⟩ j h0 hj
      match j, h0 with
      | 1, _ => exact h1.symm
      | j + 2, _ =>
        have := ih.mp h2 (j + 1) (by omega) (by simp only [List.length_cons] at hj ⊢; omega)
        exact this
    · intro h
      refine ⟨(h 1 (by omega) (by simp)).symm, ih.mpr fun j h0 hj => ?_⟩
      have := h (j + 1) (by omega) (by simp only [List.length_cons] at hj ⊢; omega)
      match j, h0 with
      | j + 1, _ => exact this
def sp_Lis_lean (K : PySem.W.Frag) : Sp := fun vs H Q _ => ∃ (a : Addr) (ns : List Int), vs = [.ref a] ∧ RowAt K H a ns ∧ ∀ H', Same H H' → Q (.bl (gaps ns)) H'
theorem ok_Lis_lean (T : Txt K mg) : FnOk P w K mg base CX0 2 T.a_Lis_lean T.d_Lis_lean p_Lis_lean (sp_Lis_lean K) := by
  refine T.F_Lis_lean.ok sc_Lis_lean (fun vs H Q E h => ?_) (fun cdv A outer s H vs Q E hr h => ?_)
  · obtain ⟨_, _, rfl, _⟩ := h
    rfl
  · obtain ⟨a, ns, rfl, hS, q⟩ := h
    refine ⟨_, pss_cons (ps_if (PW.pt (pw_or (pt_not (pt_val (pe_callB call_isi (by rfl) T.z_isinstance (by decide +kernel) (pa_cons (pv 0) (pa_cons (pe_bltn (v := .ty "list") (by rfl) T.z_list (by decide +kernel) rfl) pa_nil)))))
          (pw_or1 (pt_cmpR (op_eqD hr.units) (pe_slice sl_list (pv 0) (po_some (pe_un un_neg pe_int)) po_none) (pe_lst (pa_cons pe_int pa_nil)) (nomark _))))) (pss_one (ps_ret pe_bl)) pss_nil)
      (pss_cons (ps_for PassesOwn.never rfl (pi_range1 (by rfl) T.z_range (pa_cons (pe_callB call_len_seq (by rfl) T.z_len PySem.boot_len (pa_cons (pv 0) pa_nil)) pa_nil)) (pg_name (i := 1) sc_Lis_lean.nd rfl (.inl rfl))
        (pss_one (ps_if (PW.pt (pw_or (pt_not (pt_val (pe_call (ok_Lwhole T) hr (by rfl) T.g_Lwhole T.F_Lwhole.kp T.b_Lwhole .nil pass0 (pa_cons (pe_ix ix_list (pv 0) (pv 1) (fun _ _ => rfl)) pa_nil))))
          (pw_or (pt_cmpR op_notIn_seq (pe_ix ix_list (pv 0) (pv 1) (fun _ _ => rfl)) (pe_tup (pa_cons (pe_un un_neg pe_int) (pa_cons pe_int (pa_cons pe_int pa_nil)))) (by rfl))
          (pw_or1 (PW.pt (pw_and (pt_cmpR op_gt (pv 1) pe_int (nomark _)) (pw_and (pt_cmpR op_ne (pe_ix ix_list (pv 0) (pv 1) (fun _ _ => rfl)) pe_int (nomark _))
            (pw_and1 (pt_cmpR op_ne (pe_ix ix_list (pv 0) (pe_op op_sub (pv 1) pe_int) (fun _ _ => rfl)) pe_int (nomark _)))))))))) (pss_one (ps_ret pe_bl)) pss_nil)))
      (pss_one (ps_ret pe_bl))), ?_⟩
    obtain ⟨t, ty, _, _, h3⟩ := (kind_list (K := K) (H := H) hS.1).ex
    refine ⟨.ref a, rfl, .ref a, _, t, _, true, rfl, .ty _, ty, h3, true, rfl, ?_⟩
    refine iteF ?_
    refine ⟨.ref a, rfl, 1, rfl, -1, rfl, a, ns.map V.int, rfl, hS.1, fun c nc => ?_⟩
    have ec := cutLast ns
    rw [ec]
    refine ⟨by decide, fun l nl => ?_⟩
    have s1 : Same H (upd H c (.lst ((ns.drop (ns.length - 1)).map V.int))) := same_upd nc
    have s2 : Same _ (upd (upd H c (.lst ((ns.drop (ns.length - 1)).map V.int))) l (.lst [V.int 0])) := same_upd nl
    refine ⟨dI (ns.drop (ns.length - 1)), dI [0], dp_ints (s2.seq (SqL.of upd_same)), dp_ints (SqL.of upd_same), dI_shaped _, dI_shaped _, _, rfl, ?_⟩
    rw [dI_eqv, decide_eq_false (last_zero hS.2.1.2)]
    refine iteF ?_
    generalize upd (upd H c (.lst ((ns.drop (ns.length - 1)).map V.int))) l (.lst [V.int 0]) = H2 at s2
    have sH := s1.trans s2
    have hA := sH.seq hS.1
    have lm : (ns.map V.int).length = ns.length := List.length_map ..
    have hl := hS.2.2
    refine ⟨.ref a, rfl, a, ns.map V.int, rfl, .inl hA, ((ns.map V.int).length : Int), rfl, by rw [lm]; omega, by rw [lm]; omega, ?_⟩
    rw [lm]
    refine for_range (lo := 0) (n := ns.length) (fun i σ H1 => Same H2 H1 ∧ apartTo ns i ∧ ∃ y, σ = [some (.ref a), y]) ⟨Same.refl _, fun j h0 hj => absurd hj (Nat.not_lt_zero _), _, rfl⟩ (fun i σ H1 hi e => ?_) (fun σ H1 e => ?_)
    · obtain ⟨s3, ap, y, rfl⟩ := e
      have hA3 := s3.seq hA
      have g : (ns.map V.int)[i]? = some (.int ns[i]) := by
        rw [List.getElem?_map, List.getElem?_eq_getElem hi]
        rfl
      have gi : atI (ns.map V.int) (0 + (i : Int)) = some (.int ns[i]) := by
        rw [Int.zero_add]
        exact atI_nat g
      have hn := hS.2.1.1 ns[i] (List.getElem_mem hi)
      have dn : ns.getD i 0 = ns[i] := by simp [List.getD, hi]
      refine ⟨.ref a, rfl, .int (0 + i), rfl, a, _, _, .int ns[i], rfl, rfl, hA3, gi, .int ns[i], rfl, plain_int _, _, rfl, ?_⟩
      refine iteF ?_
      refine ⟨.ref a, rfl, .int (0 + i), rfl, a, _, _, .int ns[i], rfl, rfl, hA3, gi, 1, rfl, by show 3 ≤ sizeLine; decide, fun t nt => ?_⟩
      have s4 : Same H1 (upd H1 t (.tup [.int (-1), .int 0, .int 1])) := same_upd nt
      refine ⟨t, [.int (-1), .int 0, .int 1], rfl, .inr (SqT.of upd_same), rfl, rfl, _, rfl, ?_⟩
      have hin : inV (.int ns[i]) [.int (-1), .int 0, .int 1] = true := by
        have c : ns[i] = -1 ∨ ns[i] = 0 ∨ ns[i] = 1 := by omega
        rcases c with e | e | e <;> rw [e] <;> rfl
      rw [hin]
      refine iteF ?_
      generalize hH4 : upd H1 t (.tup [.int (-1), .int 0, .int 1]) = H4 at s4
      have hA4 := s4.seq hA3
      have next : ∀ H5, Same H4 H5 → (0 < i → ns.getD i 0 = 0 ∨ ns.getD (i - 1) 0 = 0) → Same H2 H5 ∧ apartTo ns (i + 1) ∧ ∃ y, [some (V.ref a), some (V.int (0 + i))] = [some (.ref a), y] := fun H5 s5 hz =>
        ⟨s3.trans (s4.trans s5), fun j h0 hj => by
          by_cases hji : j = i
          · subst hji
            exact hz h0
          · exact ap j h0 (by omega), _, rfl⟩
      refine ⟨.int (0 + i), rfl, _, _, rfl, rfl, _, rfl, ite2 (fun c1 => ?_) (fun c1 => ?_)⟩
      · have i0 : 0 < i := by
          have : (0 + (i : Int)) > 0 := of_decide_eq_true c1
          omega
        have hi1 : i - 1 < ns.length := by omega
        have g1 : (ns.map V.int)[i - 1]? = some (.int ns[i - 1]) := by
          rw [List.getElem?_map, List.getElem?_eq_getElem hi1]
          rfl
        have gi1 : atI (ns.map V.int) (0 + (i : Int) - 1) = some (.int ns[i - 1]) := by
          have : (0 + (i : Int) - 1) = ((i - 1 : Nat) : Int) := by omega
          rw [this]
          exact atI_nat g1
        have dn1 : ns.getD (i - 1) 0 = ns[i - 1] := by simp [List.getD, hi1]
        refine ⟨.ref a, rfl, .int (0 + i), rfl, a, _, _, .int ns[i], rfl, rfl, hA4, gi, rfl, _, rfl, ?_⟩
        by_cases z1 : ns[i] = 0
        · rw [decide_eq_true (show V.int ns[i] = V.int 0 by rw [z1])]
          exact iteF (iteF (next H4 (Same.refl _) fun _ => .inl (by rw [dn, z1])))
        · rw [decide_eq_false (show ¬ V.int ns[i] = V.int 0 from fun z => z1 (V.int.inj z))]
          refine iteT ?_
          refine ⟨.ref a, rfl, .int (0 + i), rfl, _, _, rfl, rfl, a, _, _, .int ns[i - 1], rfl, rfl, hA4, gi1, rfl, _, rfl, ?_⟩
          by_cases z2 : ns[i - 1] = 0
          · rw [decide_eq_true (show V.int ns[i - 1] = V.int 0 by rw [z2])]
            exact iteF (next H4 (Same.refl _) fun _ => .inr (by rw [dn1, z2]))
          · rw [decide_eq_false (show ¬ V.int ns[i - 1] = V.int 0 from fun z => z2 (V.int.inj z))]
            refine iteT ?_
            have no : gaps ns = false := by
              cases hb : gaps ns with
              | false => rfl
              | true =>
                have := (gaps_iff ns).mp hb i i0 hi
                rw [dn, dn1] at this
                rcases this with e | e
                · exact absurd e z1
                · exact absurd e z2
            have q' := q H4 (sH.trans (s3.trans s4))
            rw [no] at q'
            exact q'
      · have i0 : i = 0 := by
          have : ¬ (0 + (i : Int)) > 0 := fun z => c1 (decide_eq_true z)
          omega
        exact iteF (next H4 (Same.refl _) fun z => by omega)
    · obtain ⟨s3, ap, y, rfl⟩ := e
      have yes : gaps ns = true := (gaps_iff ns).mpr ap
      have q' := q H1 (sH.trans s3)
      rw [yes] at q'
      exact q'
/-! ### the law's is_row_for -/
def sp_Lis_row_for (K : PySem.W.Frag) : Sp := fun vs H Q _ => ∃ (a : Addr) (ns : List Int) (n : Int), vs = [.ref a, .int n] ∧ RowAt K H a ns ∧ ∀ H', Same H H' → Q (.bl (gaps ns && decide (val ns = n))) H'
theorem ok_Lis_row_for (T : Txt K mg) : FnOk P w K mg base CX0 3 T.a_Lis_row_for T.d_Lis_row_for p_Lis_row_for (sp_Lis_row_for K) := by
  refine T.F_Lis_row_for.ok sc_Lis_row_for (fun vs H Q E h => ?_) (fun cdv A outer s H vs Q E hr h => ?_)
  · obtain ⟨_, _, _, rfl, _⟩ := h
    rfl
  · obtain ⟨a, ns, n, rfl, hS, q⟩ := h
    refine ⟨_, pss_one (ps_ret (pe_and (pe_call (ok_Lis_lean T) hr (by rfl) T.g_Lis_lean T.F_Lis_lean.kp T.b_Lis_lean .nil pass0 (pa_cons (pv 0) pa_nil))
      (pe_one (pe_cmpR op_eq (pe_call (ok_Lworth T) (hr.mono (by decide)) (by rfl) T.g_Lworth T.F_Lworth.kp T.b_Lworth .nil pass0 (pa_cons (pv 0) pa_nil)) (pv 1) (nomark _))))), ?_⟩
    refine ⟨.ref a, rfl, a, ns, rfl, hS, fun H1 s1 => ⟨_, rfl, ?_⟩⟩
    cases hg : gaps ns with
    | false =>
      have q' := q H1 s1
      rw [hg] at q'
      exact iteF q'
    | true =>
      refine iteT ⟨.ref a, rfl, a, ns, rfl, s1.seq hS.1, hS.2.1.1, hS.2.2, .int n, rfl, rfl, ?_⟩
      have q' := q H1 s1
      rw [hg, Bool.true_and] at q'
      have e : decide (V.int (val ns) = V.int n) = decide (val ns = n) := decide_eq_decide.mpr ⟨V.int.inj, fun z => by rw [z]⟩
      rw [e]
      exact q'
/-! ### multiplied -/
def sp_multiplied (K : PySem.W.Frag) : Sp := fun vs H Q _ => ∃ a b ns ms i j, vs = [.ref a, .ref b] ∧ RowAt K H a ns ∧ RowAt K H b ms ∧ (val ns).natAbs < 2 ^ i ∧ (val ms).natAbs < 2 ^ j ∧ 0 < i ∧ 0 < j ∧ i + j ≤ 1000000 ∧ LeanTold H (val ns * val ms) (i + j) Q
theorem ok_multiplied (T : Txt K mg) : FnOk P w K mg base CX0 6 T.a_multiplied T.d_multiplied p_multiplied (sp_multiplied K) := by
  refine T.F_multiplied.ok sc_multiplied (fun vs H Q E h => ?_) (fun cdv A outer s H vs Q E hr h => ?_)
  · obtain ⟨_, _, _, _, _, _, rfl, _⟩ := h
    rfl
  · obtain ⟨a, b, ns, ms, i, j, rfl, hA, hB, hi, hj, i0, j0, ij, q⟩ := h
    refine ⟨_, pss_one (ps_ret (pe_call (ok_lean T) (hr.mono (by decide)) (by rfl) T.g_lean T.F_lean.kp T.b_lean .nil pass0 (pa_cons (pe_op op_mulW (pe_call (ok_worth T) hr (by rfl) T.g_worth T.F_worth.kp T.b_worth .nil pass0 (pa_cons (pv 0) pa_nil)) (pe_call (ok_worth T) hr (by rfl) T.g_worth T.F_worth.kp T.b_worth .nil pass0 (pa_cons (pv 1) pa_nil))) pa_nil))), ?_⟩
    refine ⟨.ref a, rfl, a, ns, rfl, hA, fun H1 s1 => ?_⟩
    refine ⟨.ref b, rfl, b, ms, rfl, hB.mono s1, fun H2 s2 => ?_⟩
    exact ⟨_, _, rfl, rfl, wide_mul hi hj i0 j0 ij, val ns * val ms, i + j, rfl, wide_lt hi hj, by omega, q.mono (s1.trans s2)⟩
/-! ### together -/
def sp_together (K : PySem.W.Frag) : Sp := fun vs H Q _ => ∃ p as rs N, vs = [.ref p] ∧ SqL K H p (as.map V.ref) ∧ IntsAt K H as rs ∧ (∀ r ∈ rs, Row r ∧ r.length ≤ 4000000) ∧ rs.length ≤ 1000000 ∧ (total rs).natAbs < 2 ^ N ∧ N ≤ 3000000 ∧ LeanTold H (total rs) N Q
theorem ok_together (T : Txt K mg) : FnOk P w K mg base CX0 6 T.a_together T.d_together p_together (sp_together K) := by
  refine T.F_together.ok sc_together (fun vs H Q E h => ?_) (fun cdv A outer s H vs Q E hr h => ?_)
  · obtain ⟨_, _, _, _, rfl, _⟩ := h
    rfl
  · obtain ⟨p, as, rs, N, rfl, hP, hR, hrow, hlen, hn, hN, q⟩ := h
    refine ⟨_, pss_cons (ps_if (pt_not (pt_val (pe_callB call_isi (by rfl) T.z_isinstance (by decide +kernel) (pa_cons (pv 0) (pa_cons (pe_bltn (v := .ty "list") (by rfl) T.z_list (by decide +kernel) rfl) pa_nil))))) (pss_one ps_never) pss_nil)
      (pss_one (ps_ret (pe_call (ok_lean T) (hr.mono (by decide)) (by rfl) T.g_lean T.F_lean.kp T.b_lean .nil pass0 (pa_cons (pe_callB (cr_sum rfl) (by rfl) T.z_sum (by decide +kernel) (pa_cons (pe_lc (own := [("row", 1)]) (g := gName 1) (tt := tYes) (by rfl) sc_together.nd (pi_list (pv 0)) (blkOk_by (N := ["rows", "row"]) (own := [("row", 1)]) (sc := defScope t_together) (by decide +kernel))
          (fun _ _ _ _ _ => pg_name (i := 1) sc_together.nd rfl (Or.inl rfl)) (fun _ _ _ _ _ => pts_nil)
          (fun _ _ _ _ _ => pe_call (ok_worth T) (by exact hr) (by rfl) T.g_worth T.F_worth.kp T.b_worth .nil pass0 (pa_cons (pv 1) pa_nil))) pa_nil)) pa_nil)))), ?_⟩
    obtain ⟨t, ty, _, _, h3⟩ := (kind_list (K := K) (H := H) hP).ex
    refine ⟨.ref p, rfl, .ref p, _, t, _, true, rfl, .ty _, ty, h3, true, rfl, ?_⟩
    refine iteF ?_
    refine ⟨.ref p, rfl, p, rfl, ⟨_, hP⟩, fun D nD => ?_⟩
    have la := hR.len
    refine lc_list (K := K) (a := p) (xs := as.map V.ref) (fun i H1 => Same H H1 ∧ H1 D = some (.lst (((rs.take i).map val).map V.int))) ⟨same_upd nD, upd_same⟩ (fun i H1 _ e => e.1.seq hP) (fun i y H1 hy e => ?_) (fun H1 e => ?_)
    · obtain ⟨s1, eD⟩ := e
      obtain ⟨a, ns, rfl, _, hn2, hs⟩ := hR.get hy
      have hm := hrow ns (List.mem_of_getElem? hn2)
      refine ⟨rfl, .ref a, rfl, a, ns, rfl, ⟨s1.seq hs, hm⟩, fun H2 s2 => ?_⟩
      refine ⟨_, s2 _ _ eD, ?_, fun b o e => ?_, ?_⟩
      · rw [List.length_map, List.length_map, List.length_take]
        have : rs.length < sizeLine := Nat.lt_of_le_of_lt hlen (by decide)
        omega
      · rw [upd_ne (ne_of_none e nD)]
        exact s2 _ _ (s1 _ _ e)
      · rw [upd_same, List.take_add_one, hn2, List.map_append, List.map_append]
        rfl
    · obtain ⟨s1, eD⟩ := e
      rw [List.length_map, la, List.take_length] at eD
      exact ⟨D, rs.map val, rfl, SqL.of eD, total rs, N, rfl, hn, hN, q.mono s1⟩
/-! ### the law's number -/
theorem abs_lt {z : Int} {k : Nat} {b : Int} (h1 : -b < z) (h2 : z < b) (hb : b = ((2 ^ k : Nat) : Int)) : z.natAbs < 2 ^ k := by omega
theorem two_le {k m : Nat} (h : k ≤ m) : (2 : Int) ^ k ≤ 2 ^ m := by
  have z := Nat.pow_le_pow_right (n := 2) (by decide) h
  have c1 : ((2 ^ k : Nat) : Int) = (2 : Int) ^ k := Int.natCast_pow 2 k
  have c2 : ((2 ^ m : Nat) : Int) = (2 : Int) ^ m := Int.natCast_pow 2 m
  omega
def sp_Lnumber (K : PySem.W.Frag) : Sp := fun vs H Q _ => ∃ c : Int, vs = [.int c] ∧ ∀ H' z, Same H H' → z.natAbs < 2 ^ 210 → Q (.int z) H'
theorem ok_Lnumber (T : Txt K mg) : FnOk P w K mg base CX0 1 T.a_Lnumber T.d_Lnumber p_Lnumber (sp_Lnumber K) := by
  refine T.F_Lnumber.ok sc_Lnumber (fun vs H Q E h => ?_) (fun cdv A outer s H vs Q E hr h => ?_)
  · obtain ⟨_, rfl, _⟩ := h
    rfl
  · obtain ⟨c, rfl, q⟩ := h
    refine ⟨_, pss_cons (ps_set (i := 1) sc_Lnumber.nd rfl (.inl rfl) (pe_op op_fdiv (pv 0) pe_int))
      (pss_cons (ps_set (i := 2) sc_Lnumber.nd rfl (.inl rfl) pe_int)
      (pss_cons (ps_for PassesOwn.never rfl (pi_range1 (by rfl) T.z_range (pa_cons (pe_op op_mod (pe_op op_fdiv (pv 1) pe_int) pe_int) pa_nil)) (pg_name (i := 3) sc_Lnumber.nd rfl (.inl rfl))
        (pss_one (ps_set (i := 2) sc_Lnumber.nd rfl (.inl rfl) (pe_op op_mul (pv 2) pe_int))))
      (pss_cons (ps_set (i := 4) sc_Lnumber.nd rfl (.inl rfl) (pe_lst (pa_cons (pe_op op_sub (pe_op op_mod (pv 1) pe_int) pe_int)
        (pa_cons (pe_op op_sub (pe_op op_add (pv 2) (pe_op op_mod (pv 1) pe_int)) pe_int)
        (pa_cons (pe_op op_sub (pe_op op_add (pe_op op_fdiv (pv 2) pe_int) (pe_op op_mod (pv 1) pe_int)) pe_int)
        (pa_cons (pe_op op_sub (pe_op op_add (pe_op op_sub pe_int (pv 2)) (pe_op op_mod (pv 1) pe_int)) pe_int) pa_nil))))))
      (pss_cons (ps_set (i := 5) sc_Lnumber.nd rfl (.inl rfl) (pe_op op_sub (pe_op op_mod (pe_op op_mul (pv 1) pe_int) (pe_op op_add (pe_op op_mul pe_int (pe_op op_pow pe_int pe_int)) pe_int)) (pe_op op_pow pe_int pe_int)))
      (pss_one (ps_ret (pe_ix ix_list (pe_op op_cat (pv 4) (pe_lst (pa_cons (pv 5) (pa_cons (pv 5) (pa_cons (pe_op op_sub (pe_op op_mod (pv 0) (pe_op op_add (pe_op op_mul pe_int (pe_op op_pow pe_int pe_int)) pe_int)) (pe_op op_pow pe_int pe_int))
        (pa_cons (pe_op op_sub (pe_op op_mod (pv 1) pe_int) pe_int) pa_nil)))))) (pe_op op_mod (pv 0) pe_int) (fun _ _ => rfl)))))))), ?_⟩
    have big : (2 * 10 ^ 60 + 1 : Int) = 2000000000000000000000000000000000000000000000000000000000001 := by decide
    have ten : (10 : Int) ^ (60 : Int).toNat = 1000000000000000000000000000000000000000000000000000000000000 := by decide
    refine ⟨.int c, rfl, _, _, rfl, rfl, ⟨by decide, by decide⟩, ?_⟩
    have m0 := Int.emod_nonneg (c / 8 / 9) (show (200 : Int) ≠ 0 by decide)
    have m1 := Int.emod_lt_of_pos (c / 8 / 9) (show (0 : Int) < 200 by decide)
    refine ⟨.int (c / 8), rfl, _, _, rfl, rfl, ⟨by decide, by decide⟩, _, _, rfl, rfl, (by show (0 : Int) < 200; decide), c / 8 / 9 % 200, rfl, by omega, by omega, ?_⟩
    refine for_range (lo := 0) (n := (c / 8 / 9 % 200).toNat) (fun i σ H1 => H1 = H ∧ ∃ y, σ = [some (.int c), some (.int (c / 8)), some (.int (2 ^ i)), y, none, none]) ⟨rfl, _, rfl⟩ (fun i σ H1 hi e => ?_) (fun σ H1 e => ?_)
    · obtain ⟨rfl, y, rfl⟩ := e
      exact ⟨_, rfl, _, _, rfl, rfl, .inr (by show -(2 ^ 64 : Int) < 2 ∧ (2 : Int) < 2 ^ 64; decide), rfl, _, rfl⟩
    · obtain ⟨rfl, y, rfl⟩ := e
      have hN : (c / 8 / 9 % 200).toNat ≤ 200 := by omega
      have p0 : (0 : Int) < 2 ^ (c / 8 / 9 % 200).toNat := Int.pow_pos (by decide)
      have p1 : (2 : Int) ^ (c / 8 / 9 % 200).toNat ≤ 2 ^ 200 := two_le hN
      generalize (2 : Int) ^ (c / 8 / 9 % 200).toNat = p at p0 p1
      have e200 : (2 : Int) ^ 200 = 1606938044258990275541962092341162602522202993782792835301376 := by decide
      rw [e200] at p1
      have e210 : ((2 ^ 210 : Nat) : Int) = 1645504557321206042154969182557350504982735865633579863348609024 := by decide
      refine ⟨.int (c / 8), rfl, _, _, rfl, rfl, (by show (0 : Int) < 23; decide), _, _, rfl, rfl, .int p, rfl, .int (c / 8), rfl, _, _, rfl, rfl, (by show (0 : Int) < 9; decide), _, _, rfl, rfl, _, _, rfl, rfl,
        .int p, rfl, _, _, rfl, rfl, ⟨by decide, by decide⟩, .int (c / 8), rfl, _, _, rfl, rfl, (by show (0 : Int) < 5; decide), _, _, rfl, rfl, _, _, rfl, rfl,
        .int p, rfl, _, _, rfl, rfl, .int (c / 8), rfl, _, _, rfl, rfl, (by show (0 : Int) < 9; decide), _, _, rfl, rfl, _, _, rfl, rfl, small_ok (by simp), fun l nl => ?_⟩
      have s1 : Same H1 (upd H1 l (.lst [.int (c / 8 % 23 - 11), .int (p + c / 8 % 9 - 4), .int (p / 3 + c / 8 % 5 - 2), .int (0 - p + c / 8 % 9 - 4)])) := same_upd nl
      have k1 : (upd H1 l (.lst [.int (c / 8 % 23 - 11), .int (p + c / 8 % 9 - 4), .int (p / 3 + c / 8 % 5 - 2), .int (0 - p + c / 8 % 9 - 4)])) l = some (.lst ([c / 8 % 23 - 11, p + c / 8 % 9 - 4, p / 3 + c / 8 % 5 - 2, 0 - p + c / 8 % 9 - 4].map V.int)) := upd_same
      generalize upd H1 l (.lst [.int (c / 8 % 23 - 11), .int (p + c / 8 % 9 - 4), .int (p / 3 + c / 8 % 5 - 2), .int (0 - p + c / 8 % 9 - 4)]) = H2 at s1 k1
      refine ⟨.int (c / 8), rfl, _, _, rfl, rfl, .inr (by show -(2 ^ 64 : Int) < 48271 ∧ (48271 : Int) < 2 ^ 64; decide), _, _, rfl, rfl, ⟨by decide, by decide, by decide⟩, _, _, rfl, rfl, .inl (by show -(2 ^ 64 : Int) < 2 ∧ (2 : Int) < 2 ^ 64; decide), _, _, rfl, rfl, _, _, rfl, rfl, ?_, _, _, rfl, rfl, ⟨by decide, by decide, by decide⟩, _, _, rfl, rfl, ?_⟩
      · show (0 : Int) < 2 * 10 ^ (60 : Int).toNat + 1
        rw [ten]
        decide
      refine ⟨.ref l, rfl, .int (c / 8 * 48271 % (2 * 10 ^ (60 : Int).toNat + 1) - 10 ^ (60 : Int).toNat), rfl, .int (c / 8 * 48271 % (2 * 10 ^ (60 : Int).toNat + 1) - 10 ^ (60 : Int).toNat), rfl, .int c, rfl, _, _, rfl, rfl, ⟨by decide, by decide, by decide⟩, _, _, rfl, rfl, .inl (by show -(2 ^ 64 : Int) < 2 ∧ (2 : Int) < 2 ^ 64; decide), _, _, rfl, rfl, _, _, rfl, rfl, ?_, _, _, rfl, rfl, ⟨by decide, by decide, by decide⟩, _, _, rfl, rfl,
        .int (c / 8), rfl, _, _, rfl, rfl, (by show (0 : Int) < 2000001; decide), _, _, rfl, rfl, small_ok (by simp), fun l2 nl2 => ?_⟩
      · show (0 : Int) < 2 * 10 ^ (60 : Int).toNat + 1
        rw [ten]
        decide
      have s2 := same_upd (o := .lst [V.int (c / 8 * 48271 % (2 * 10 ^ (60 : Int).toNat + 1) - 10 ^ (60 : Int).toNat), .int (c / 8 * 48271 % (2 * 10 ^ (60 : Int).toNat + 1) - 10 ^ (60 : Int).toNat), .int (c % (2 * 10 ^ (60 : Int).toNat + 1) - 10 ^ (60 : Int).toNat), .int (c / 8 % 2000001 - 1000000)]) nl2
      refine ⟨l, l2, _, _, rfl, rfl, s2 _ _ k1, upd_same, small_ok (by simp), fun l3 nl3 => ?_⟩
      have s3 := same_upd (o := .lst ([c / 8 % 23 - 11, p + c / 8 % 9 - 4, p / 3 + c / 8 % 5 - 2, 0 - p + c / 8 % 9 - 4].map V.int ++ [V.int (c / 8 * 48271 % (2 * 10 ^ (60 : Int).toNat + 1) - 10 ^ (60 : Int).toNat), .int (c / 8 * 48271 % (2 * 10 ^ (60 : Int).toNat + 1) - 10 ^ (60 : Int).toNat), .int (c % (2 * 10 ^ (60 : Int).toNat + 1) - 10 ^ (60 : Int).toNat), .int (c / 8 % 2000001 - 1000000)])) nl3
      have st := s1.trans (s2.trans s3)
      have f0 := Int.emod_nonneg c (show (8 : Int) ≠ 0 by decide)
      have f1 := Int.emod_lt_of_pos c (show (0 : Int) < 8 by decide)
      have w0 := Int.emod_nonneg (c / 8 * 48271) (show (2000000000000000000000000000000000000000000000000000000000001 : Int) ≠ 0 by decide)
      have w1 := Int.emod_lt_of_pos (c / 8 * 48271) (show (0 : Int) < 2000000000000000000000000000000000000000000000000000000000001 by decide)
      have v0 := Int.emod_nonneg c (show (2000000000000000000000000000000000000000000000000000000000001 : Int) ≠ 0 by decide)
      have v1 := Int.emod_lt_of_pos c (show (0 : Int) < 2000000000000000000000000000000000000000000000000000000000001 by decide)
      have eten : (2 * 10 ^ (60 : Int).toNat + 1 : Int) = 2000000000000000000000000000000000000000000000000000000000001 := by rw [ten]; decide
      rw [eten, ten] at st ⊢
      have fin : ∃ z : Int, z.natAbs < 2 ^ 210 ∧ atI ([c / 8 % 23 - 11, p + c / 8 % 9 - 4, p / 3 + c / 8 % 5 - 2, 0 - p + c / 8 % 9 - 4].map V.int ++ [V.int (c / 8 * 48271 % 2000000000000000000000000000000000000000000000000000000000001 - 1000000000000000000000000000000000000000000000000000000000000), .int (c / 8 * 48271 % 2000000000000000000000000000000000000000000000000000000000001 - 1000000000000000000000000000000000000000000000000000000000000), .int (c % 2000000000000000000000000000000000000000000000000000000000001 - 1000000000000000000000000000000000000000000000000000000000000), .int (c / 8 % 2000001 - 1000000)]) (c % 8) = some (.int z) := by
        have cc : c % 8 = ((0 : Nat) : Int) ∨ c % 8 = ((1 : Nat) : Int) ∨ c % 8 = ((2 : Nat) : Int) ∨ c % 8 = ((3 : Nat) : Int) ∨ c % 8 = ((4 : Nat) : Int) ∨ c % 8 = ((5 : Nat) : Int) ∨ c % 8 = ((6 : Nat) : Int) ∨ c % 8 = ((7 : Nat) : Int) := by omega
        rcases cc with e | e | e | e | e | e | e | e <;> rw [e]
        · exact ⟨c / 8 % 23 - 11, abs_lt (b := 1645504557321206042154969182557350504982735865633579863348609024) (by omega) (by omega) e210.symm, atI_nat rfl⟩
        · exact ⟨p + c / 8 % 9 - 4, abs_lt (b := 1645504557321206042154969182557350504982735865633579863348609024) (by omega) (by omega) e210.symm, atI_nat rfl⟩
        · exact ⟨p / 3 + c / 8 % 5 - 2, abs_lt (b := 1645504557321206042154969182557350504982735865633579863348609024) (by omega) (by omega) e210.symm, atI_nat rfl⟩
        · exact ⟨0 - p + c / 8 % 9 - 4, abs_lt (b := 1645504557321206042154969182557350504982735865633579863348609024) (by omega) (by omega) e210.symm, atI_nat rfl⟩
        · exact ⟨_, abs_lt (b := 1645504557321206042154969182557350504982735865633579863348609024) (by omega) (by omega) e210.symm, atI_nat rfl⟩
        · exact ⟨_, abs_lt (b := 1645504557321206042154969182557350504982735865633579863348609024) (by omega) (by omega) e210.symm, atI_nat rfl⟩
        · exact ⟨_, abs_lt (b := 1645504557321206042154969182557350504982735865633579863348609024) (by omega) (by omega) e210.symm, atI_nat rfl⟩
        · exact ⟨c / 8 % 2000001 - 1000000, abs_lt (b := 1645504557321206042154969182557350504982735865633579863348609024) (by omega) (by omega) e210.symm, atI_nat rfl⟩
      obtain ⟨z, hz, hat⟩ := fin
      exact ⟨.int c, rfl, _, _, rfl, rfl, (by show (0 : Int) < 8; decide), l3, _, c % 8, .int z, rfl, rfl, SqL.of upd_same, hat, q _ z st hz⟩
/-! ### the law's small -/
def sp_Lsmall (K : PySem.W.Frag) : Sp := fun vs H Q _ => ∃ c : Int, vs = [.int c] ∧ ∀ H' z, Same H H' → z.natAbs < 2 ^ 100 → Q (.int z) H'
theorem ok_Lsmall (T : Txt K mg) : FnOk P w K mg base CX0 2 T.a_Lsmall T.d_Lsmall p_Lsmall (sp_Lsmall K) := by
  refine T.F_Lsmall.ok sc_Lsmall (fun vs H Q E h => ?_) (fun cdv A outer s H vs Q E hr h => ?_)
  · obtain ⟨_, rfl, _⟩ := h
    rfl
  · obtain ⟨c, rfl, q⟩ := h
    refine ⟨_, pss_cons (ps_set (i := 1) sc_Lsmall.nd rfl (.inl rfl) (pe_call (ok_Lnumber T) hr (by rfl) T.g_Lnumber T.F_Lnumber.kp T.b_Lnumber .nil pass0 (pa_cons (pv 0) pa_nil)))
      (pss_one (ps_ret (pe_op op_mul (pe_op op_mod (pe_callB call_abs (by rfl) T.z_abs (by decide +kernel) (pa_cons (pv 1) pa_nil)) (pe_op op_add (pe_op op_pow pe_int pe_int) pe_int)) (pe_op op_sub pe_int (pe_op op_mul pe_int (pe_callTy call_int1 (by rfl) T.z_int (by decide +kernel) (pa_cons (pe_cmpR op_lt (pv 1) pe_int (nomark _)) pa_nil))))))), ?_⟩
    refine ⟨.int c, rfl, c, rfl, fun H1 z s1 hz => ?_⟩
    refine ⟨.int z, rfl, z, rfl, _, _, rfl, rfl, ⟨by decide, by decide, by decide⟩, _, _, rfl, rfl, _, _, rfl, rfl, (by show (0 : Int) < 10 ^ (30 : Int).toNat + 1; decide), .int z, rfl, _, _, rfl, rfl, .inr ⟨_, rfl, _, _, rfl, rfl, .inl (by show -(2 ^ 64 : Int) < 2 ∧ (2 : Int) < 2 ^ 64; decide), _, _, rfl, rfl, _, _, rfl, rfl, .inr (sign_small z), ?_⟩⟩
    exact q H1 _ s1 (cut_lt (by decide) (by decide +kernel))
/-! ### the law's row: a row of a number's worth -/
theorem row_step {l : List Int} {d t : Int} {L : Nat} (hl : l.length = L) : val (l ++ [d]) + 2 ^ (L + 1) * t = val l + 2 ^ L * (d + 2 * t) := by
  rw [val_append, hl, Int.pow_succ, Int.mul_add]
  show val l + 2 ^ L * (d + 2 * 0) + 2 ^ L * 2 * t = val l + (2 ^ L * d + 2 ^ L * (2 * t))
  rw [Int.mul_zero, Int.add_zero, Int.mul_assoc, Int.add_assoc]
def sp_Lrow (K : PySem.W.Frag) : Sp := fun vs H Q _ => ∃ (n c : Int) (N : Nat), vs = [.int n, .int c] ∧ n.natAbs < 2 ^ N ∧ N ≤ 1000 ∧ ∀ H' p r, Same H H' → H p = none → Row r → val r = n → r.length ≤ N + 1 → H' p = some (.lst (r.map V.int)) → Q (.ref p) H'
theorem ok_Lrow (T : Txt K mg) : FnOk P w K mg base CX0 2 T.a_Lrow T.d_Lrow p_Lrow (sp_Lrow K) := by
  refine T.F_Lrow.ok sc_Lrow (fun vs H Q E h => ?_) (fun cdv A outer s H vs Q E hr h => ?_)
  · obtain ⟨_, _, _, rfl, _⟩ := h
    rfl
  · obtain ⟨n, c, N, rfl, hn, hN, q⟩ := h
    refine ⟨_, pss_cons (ps_set (i := 2) sc_Lrow.nd rfl (.inl rfl) (pe_op op_sub pe_int (pe_op op_mul pe_int (pe_callTy call_int1 (by rfl) T.z_int (by decide +kernel) (pa_cons (pe_cmpR op_lt (pv 0) pe_int (nomark _)) pa_nil)))))
      (pss_cons (ps_set (i := 3) sc_Lrow.nd rfl (.inl rfl) (pe_callB call_abs (by rfl) T.z_abs (by decide +kernel) (pa_cons (pv 0) pa_nil)))
      (pss_cons (ps_set (i := 4) sc_Lrow.nd rfl (.inl rfl) (pe_lst pa_nil))
      (pss_cons (ps_while PassesOwn.never (pt_cmpR op_gt (pv 3) pe_int (nomark _))
        (pss_cons (ps_if (PW.pt (pw_and (pt_cmpR op_eq (pe_op op_mod (pv 3) pe_int) pe_int (nomark _)) (pw_and (pt_cmpR op_gt (pv 3) pe_int (nomark _))
              (pw_and1 (pt_cmpR op_eq (pe_op op_mod (pe_call (ok_Lmixed T) hr (by rfl) T.g_Lmixed T.F_Lmixed.kp T.b_Lmixed .nil pass0 (pa_cons (pv 1) (pa_cons (pe_op op_mod (pe_callB call_len_seq (by rfl) T.z_len PySem.boot_len (pa_cons (pv 4) pa_nil)) pe_int) pa_nil))) (pe_ix ix_list (pe_lst (pa_cons pe_int (pa_cons pe_int pa_nil))) (pe_op op_mod (pv 1) pe_int) (fun _ _ => rfl))) pe_int (nomark _))))))
          (pss_cons (ps_expr (pe_bm PySem.F.plainAttrs_list PySem.F.slot_list_append PySem.F.type_list_append mt_append (pv 4) (pa_cons (pe_op op_sub pe_int (pv 2)) pa_nil)))
            (pss_one (ps_set (i := 3) sc_Lrow.nd rfl (.inl rfl) (pe_op op_add (pv 3) pe_int))))
          (pss_one (ps_expr (pe_bm PySem.F.plainAttrs_list PySem.F.slot_list_append PySem.F.type_list_append mt_append (pv 4) (pa_cons (pe_op op_mul (pe_op op_mod (pv 3) pe_int) (pv 2)) pa_nil)))))
        (pss_one (ps_set (i := 3) sc_Lrow.nd rfl (.inl rfl) (pe_op op_fdiv (pv 3) pe_int)))))
      (pss_one (ps_ret (pv 4)))))), ?_⟩
    have ea : (if n < 0 then -n else n) = ((n.natAbs : Nat) : Int) := by
      split <;> omega
    have sg : ∃ s : Int, (s = 1 ∨ s = -1) ∧ 1 - 2 * (if decide (n < 0) = true then (1 : Int) else 0) = s ∧ s * ((n.natAbs : Nat) : Int) = n := by
      by_cases h : n < 0
      · exact ⟨-1, .inr rfl, by rw [decide_eq_true h, if_pos rfl]; rfl, by omega⟩
      · exact ⟨1, .inl rfl, by rw [decide_eq_false h, if_neg Bool.false_ne_true]; rfl, by omega⟩
    obtain ⟨s1, hs, es, en⟩ := sg
    refine ⟨.int n, rfl, _, _, rfl, rfl, .inr ⟨_, rfl, _, _, rfl, rfl, .inl (by show -(2 ^ 64 : Int) < 2 ∧ (2 : Int) < 2 ^ 64; decide), _, _, rfl, rfl, ?_⟩⟩
    refine ⟨.int n, rfl, n, rfl, ?_⟩
    refine ⟨Nat.zero_le _, fun o no => ?_⟩
    refine ⟨fun m σ H1 => ∃ (L : Nat) (l : List Int), l.length = L ∧ ((∃ k, L + k = N ∧ m ≤ 2 ^ k) ∨ (L = N + 1 ∧ m = 0)) ∧ (∀ z ∈ l, -1 ≤ z ∧ z ≤ 1) ∧ (m = 0 → l.getLast? ≠ some 0) ∧
        val l + 2 ^ L * (s1 * (m : Int)) = n ∧ Same H H1 ∧ H1 o = some (.lst (l.map V.int)) ∧ σ = [some (.int n), some (.int c), some (.int s1), some (.int (m : Int)), some (.ref o)],
      ⟨n.natAbs, 0, [], rfl, .inl ⟨N, by omega, by omega⟩, (fun _ hz => nomatch hz), (fun _ z => nomatch z), ?_, same_upd no, upd_same, ?_⟩, fun m σ H1 hW => ?_⟩
    · show (0 : Int) + 2 ^ 0 * (s1 * ((n.natAbs : Nat) : Int)) = n
      rw [en]
      omega
    · rw [← ea, ← es]
      rfl
    obtain ⟨L, l, hL, hk, hfig, hlast, hval, sH, eo, rfl⟩ := hW
    have lenL : L ≤ N + 1 := by
      rcases hk with ⟨k, k1, _⟩ | ⟨k1, _⟩ <;> omega
    have lim : (2000 : Nat) ≤ sizeLine := by decide
    have lml : (l.map V.int).length = l.length := List.length_map ..
    refine ⟨.int m, rfl, _, _, rfl, rfl, _, rfl, ?_⟩
    by_cases h0 : 0 < m
    · have h0' : (m : Int) > 0 := by omega
      rw [decide_eq_true h0']
      refine iteT ⟨fun σ' H' => ∃ (m' : Nat) (d : Int), m' < m ∧ m' ≤ (m + 1) / 2 ∧ (m = 1 → m' = 0) ∧ -1 ≤ d ∧ d ≤ 1 ∧ s1 * (m : Int) = d + 2 * (s1 * (m' : Int)) ∧ (m' = 0 → d ≠ 0) ∧ Same H H' ∧ H' o = some (.lst (l.map V.int ++ [.int d])) ∧
          σ' = [some (.int n), some (.int c), some (.int s1), some (.int (m' : Int)), some (.ref o)], fun σ' H' hN => ?_, ?_⟩
      · obtain ⟨m', d, a0, a1, a2, a3, a4, a5, a6, a7, a8, rfl⟩ := hN
        refine ⟨m', a0, L + 1, l ++ [d], by simp [hL], ?_, fun z hz => ?_, fun b1 => ?_, ?_, a7, by rw [a8, List.map_append]; rfl, rfl⟩
        · rcases hk with ⟨k, k1, k2⟩ | ⟨k1, k2⟩
          · cases k with
            | zero =>
              have e0 : (2 : Nat) ^ 0 = 1 := rfl
              exact .inr ⟨by omega, a2 (by omega)⟩
            | succ k =>
              refine .inl ⟨k, by omega, ?_⟩
              rw [Nat.pow_succ] at k2
              omega
          · omega
        · rcases List.mem_append.mp hz with h | h
          · exact hfig z h
          · rw [List.mem_singleton.mp h]
            exact ⟨a3, a4⟩
        · rw [List.getLast?_append]
          have := a6 b1
          simpa using this
        · rw [row_step hL, ← a5]
          exact hval
      · have sO : ∀ x, Same H (upd H1 o (.lst (l.map V.int ++ [.int x]))) := fun x b u e => by
          have nb : b ≠ o := ne_of_none e no
          rw [upd_ne nb]
          exact sH _ _ e
        have half : (m : Int) / 2 = ((m / 2 : Nat) : Int) := by omega
        have way2 : ∀ H1 : Hp, Same H (upd H1 o (.lst (l.map V.int ++ [.int ((m : Int) % 2 * s1)]))) → ∃ (m' : Nat) (d : Int), m' < m ∧ m' ≤ (m + 1) / 2 ∧ (m = 1 → m' = 0) ∧ -1 ≤ d ∧ d ≤ 1 ∧ s1 * (m : Int) = d + 2 * (s1 * (m' : Int)) ∧ (m' = 0 → d ≠ 0) ∧ Same H (upd H1 o (.lst (l.map V.int ++ [.int ((m : Int) % 2 * s1)]))) ∧ (upd H1 o (.lst (l.map V.int ++ [.int ((m : Int) % 2 * s1)]))) o = some (.lst (l.map V.int ++ [.int d])) ∧
            [some (V.int n), some (.int c), some (.int s1), some (.int ((m : Int) / 2)), some (.ref o)] = [some (.int n), some (.int c), some (.int s1), some (.int (m' : Int)), some (.ref o)] := by
          intro H1 sQ
          refine ⟨m / 2, (m : Int) % 2 * s1, by omega, by omega, by omega, ?_, ?_, ?_, ?_, sQ, upd_same, by rw [half]⟩
          all_goals
            have z : (m : Int) % 2 = 0 ∨ (m : Int) % 2 = 1 := by omega
            rcases hs with e | e <;> subst e <;> rcases z with z | z <;> rw [z] <;> omega
        refine ⟨.int m, rfl, _, _, rfl, rfl, (by show (0 : Int) < 2; decide), rfl, _, rfl, ?_⟩
        by_cases hh : (m : Int) % 2 = 1
        · rw [decide_eq_true (show V.int ((m : Int) % 2) = V.int 1 by rw [hh])]
          refine iteT ?_
          refine ⟨.int m, rfl, _, _, rfl, rfl, _, rfl, ?_⟩
          by_cases h1 : (m : Int) > 1
          · rw [decide_eq_true h1]
            refine iteT ?_
            refine ⟨.int c, rfl, .ref o, rfl, o, _, rfl, .inl (SqL.of eo), _, _, rfl, rfl, (by show (0 : Int) < 97; decide), c, ((l.map V.int).length : Int) % 97, rfl, by omega, by omega, small_ok (by simp), fun l2 nl2 => ?_⟩
            have two : ∃ j : Int, 0 < j ∧ atI [V.int 2, .int 9] (c % 2) = some (.int j) := by
              have cc : c % 2 = ((0 : Nat) : Int) ∨ c % 2 = ((1 : Nat) : Int) := by omega
              rcases cc with e | e <;> rw [e]
              · exact ⟨2, by decide, atI_nat rfl⟩
              · exact ⟨9, by decide, atI_nat rfl⟩
            obtain ⟨j, hj, hat⟩ := two
            have s2 : Same H1 (upd H1 l2 (.lst [.int 2, .int 9])) := same_upd nl2
            have k2 : SqL K (upd H1 l2 (.lst [.int 2, .int 9])) l2 [.int 2, .int 9] := SqL.of upd_same
            have eo2 := s2 _ _ eo
            refine ⟨.int c, rfl, _, _, rfl, rfl, (by show (0 : Int) < 2; decide), l2, _, c % 2, .int j, rfl, rfl, k2, hat, _, _, rfl, rfl, hj, rfl, _, rfl, ?_⟩
            generalize upd H1 l2 (.lst [.int 2, .int 9]) = H2 at s2 k2 eo2
            have sO2 : ∀ x, Same H (upd H2 o (.lst (l.map V.int ++ [.int x]))) := fun x b u e => by
              rw [upd_ne (ne_of_none e no)]
              exact s2 _ _ (sH _ _ e)
            by_cases hm3 : V.int (mixd c (((l.map V.int).length : Int) % 97) % j) = V.int 1
            · rw [decide_eq_true hm3]
              refine iteT ?_
              refine ⟨.ref o, rfl, .inl ⟨rfl, _, SqL.of eo2⟩, .int s1, rfl, _, _, rfl, rfl, o, _, _, rfl, rfl, eo2, by rw [lml]; omega, .int m, rfl, _, _, rfl, rfl, _, rfl, _, _, rfl, rfl, ⟨by decide, by decide⟩, ?_⟩
              refine ⟨(m + 1) / 2, 0 - s1, by omega, by omega, by omega, ?_, ?_, ?_, ?_, sO2 _, upd_same, ?_⟩
              · rcases hs with e | e <;> subst e <;> decide
              · rcases hs with e | e <;> subst e <;> decide
              · rcases hs with e | e <;> subst e <;> omega
              · intro z
                omega
              · have e1 : ((m : Int) + 1) / 2 = (((m + 1) / 2 : Nat) : Int) := by omega
                rw [← e1]
                rfl
            · rw [decide_eq_false hm3]
              refine iteF ?_
              exact ⟨.ref o, rfl, .inl ⟨rfl, _, SqL.of eo2⟩, .int m, rfl, _, _, rfl, rfl, (by show (0 : Int) < 2; decide), .int s1, rfl, _, _, rfl, rfl, .inl (by show -(2 ^ 64 : Int) < (m : Int) % 2 ∧ (m : Int) % 2 < 2 ^ 64; omega), o, _, _, rfl, rfl, eo2, by rw [lml]; omega,
                .int m, rfl, _, _, rfl, rfl, ⟨by decide, by decide⟩, way2 H2 (sO2 _)⟩
          · rw [decide_eq_false h1]
            refine iteF (iteF ?_)
            exact ⟨.ref o, rfl, .inl ⟨rfl, _, SqL.of eo⟩, .int m, rfl, _, _, rfl, rfl, (by show (0 : Int) < 2; decide), .int s1, rfl, _, _, rfl, rfl, .inl (by show -(2 ^ 64 : Int) < (m : Int) % 2 ∧ (m : Int) % 2 < 2 ^ 64; omega), o, _, _, rfl, rfl, eo, by rw [lml]; omega,
              .int m, rfl, _, _, rfl, rfl, ⟨by decide, by decide⟩, way2 H1 (sO _)⟩
        · rw [decide_eq_false (show ¬ V.int ((m : Int) % 2) = V.int 1 from fun z => hh (V.int.inj z))]
          refine iteF (iteF ?_)
          exact ⟨.ref o, rfl, .inl ⟨rfl, _, SqL.of eo⟩, .int m, rfl, _, _, rfl, rfl, (by show (0 : Int) < 2; decide), .int s1, rfl, _, _, rfl, rfl, .inl (by show -(2 ^ 64 : Int) < (m : Int) % 2 ∧ (m : Int) % 2 < 2 ^ 64; omega), o, _, _, rfl, rfl, eo, by rw [lml]; omega,
            .int m, rfl, _, _, rfl, rfl, ⟨by decide, by decide⟩, way2 H1 (sO _)⟩
    · have m0 : m = 0 := by omega
      subst m0
      rw [decide_eq_false (show ¬ (((0 : Nat) : Int) > 0) by decide)]
      refine iteF ⟨.ref o, rfl, ?_⟩
      have hv : val l = n := by
        have e : ((0 : Nat) : Int) = 0 := rfl
        rw [e, Int.mul_zero, Int.mul_zero, Int.add_zero] at hval
        exact hval
      exact q H1 o l sH no ⟨hfig, hlast rfl⟩ hv (by omega) eo
/-! ### the law -/
theorem cut17 (ns : List Int) : ∃ ms : List Int, cutV (ns.map V.int) (some 1) (some 17) = ms.map V.int ∧ ms.length ≤ 16 := by
  unfold cutV
  refine ⟨(ns.drop (HT.sIx (ns.map V.int).length 0 (some 1))).take (HT.sIx (ns.map V.int).length (ns.map V.int).length (some 17) - HT.sIx (ns.map V.int).length 0 (some 1)), by rw [List.map_take, List.map_drop], ?_⟩
  rw [List.length_take, List.length_drop]
  have e1 : HT.sIx (ns.map V.int).length 0 (some 1) = min 1 (ns.map V.int).length := HT.sIx_nat _ _ 1
  have e2 : HT.sIx (ns.map V.int).length (ns.map V.int).length (some 17) = min 17 (ns.map V.int).length := HT.sIx_nat _ _ 17
  rw [e1, e2]
  omega
/-- the place ahead, or the last one -/
def prev (n k : Nat) : Nat := if k = 0 then n - 1 else k - 1
theorem prev_lt {n k : Nat} (h : k < n) : prev n k < n := by
  unfold prev
  split <;> omega
theorem atI_prev {xs : List V} {n k : Nat} (h : k < n) (e : xs.length = n) {v : V} (g : xs[prev n k]? = some v) : atI xs ((k : Int) - 1) = some v := by
  unfold prev at g
  by_cases h0 : k = 0
  · subst h0
    rw [if_pos rfl] at g
    have ne : xs ≠ [] := fun z => by rw [z] at e; simp at e; omega
    have e1 : atI xs (((0 : Nat) : Int) - 1) = some (xs.getLast ne) := atI_getLast xs ne
    rw [e1, ← g, List.getLast_eq_getElem, ← e, List.getElem?_eq_getElem]
  · rw [if_neg h0] at g
    have : ((k : Int) - 1) = ((k - 1 : Nat) : Int) := by omega
    rw [this]
    exact atI_nat g
def sp_law (K : PySem.W.Frag) : Sp := fun vs H Q _ => ∃ (a : Addr) (ns : List Int), vs = [.ref a] ∧ SqL K H a (ns.map V.int) ∧ ns.length ≤ 63 ∧ ∀ H', Q (.bl true) H'
theorem ok_law_at (T : Txt K mg) {f : Addr} {fd : FuncData} (F : Fun K "law" "law" t_law f fd) (b : Binds K fd p_law []) : FnOk P w K mg base CX0 7 f fd p_law (sp_law K) := by
  refine F.ok sc_law (fun vs H Q E h => ?_) (fun cdv A outer s H vs Q E hr h => ?_)
  · obtain ⟨_, _, rfl, _⟩ := h
    rfl
  · obtain ⟨a, ns, rfl, hS, hlen0, q⟩ := h
    refine ⟨_, (pss_cons (ps_set (i := 1) sc_law.nd rfl (.inl rfl) (pe_op op_cat (pe_lc (own := [("_law_cell", 9)]) (g := gName 9) (tt := tYes) (by rfl) sc_law.nd (pi_list (pe_slice sl_list (pv 0) (po_some pe_int) (po_some pe_int)))
        (blkOk_by (N := ["_law_script", "_law_numbers", "_law_rows", "_law_handed", "_law_k", "_law_other", "_law_found", "_law_factor", "_law_due", "_law_cell", "_law_number_here", "_law_row_here", "_law_one"]) (own := [("_law_cell", 9)]) (sc := defScope t_law) (by decide +kernel))
        (fun _ _ _ _ _ => pg_name (i := 9) sc_law.nd rfl (Or.inl rfl)) (fun _ _ _ _ _ => pts_nil)
        (fun _ _ _ _ _ => pe_call (ok_Lsmall T) (by exact hr.mono (by decide)) (by rfl) T.g_Lsmall T.F_Lsmall.kp T.b_Lsmall .nil pass0 (pa_cons (pv 9) pa_nil))) (pe_lst (pa_cons pe_int pa_nil))))
      (pss_cons (ps_setLc (i := 2) (own := [("_law_number_here", 10)]) (g := gName 10) (tt := tYes) (by rfl) sc_law.nd rfl rfl (sw_true rfl rfl rfl (by decide +kernel)) (pi_list (pv 1))
        (blkOk_by (N := ["_law_script", "_law_numbers", "_law_rows", "_law_handed", "_law_k", "_law_other", "_law_found", "_law_factor", "_law_due", "_law_cell", "_law_number_here", "_law_row_here", "_law_one"]) (own := [("_law_number_here", 10)]) (sc := defScope t_law) (by decide +kernel))
        (fun _ _ _ _ _ => pg_name (i := 10) sc_law.nd rfl (Or.inl rfl)) (fun _ _ _ _ _ => pts_nil)
        (fun _ _ _ _ _ => pe_call (ok_Lrow T) (by exact hr.mono (by decide)) (by rfl) T.g_Lrow T.F_Lrow.kp T.b_Lrow .nil pass0 (pa_cons (pv 10) (pa_cons (pe_call (ok_Lmixed T) (by exact hr.mono (by decide)) (by rfl) T.g_Lmixed T.F_Lmixed.kp T.b_Lmixed .nil pass0 (pa_cons (pv 10) (pa_cons pe_int pa_nil))) pa_nil))))
      (pss_cons (ps_setLc (i := 3) (own := [("_law_row_here", 11)]) (g := gName 11) (tt := tYes) (by rfl) sc_law.nd rfl rfl (sw_true rfl rfl rfl (by decide +kernel)) (pi_list (pv 2))
        (blkOk_by (N := ["_law_script", "_law_numbers", "_law_rows", "_law_handed", "_law_k", "_law_other", "_law_found", "_law_factor", "_law_due", "_law_cell", "_law_number_here", "_law_row_here", "_law_one"]) (own := [("_law_row_here", 11)]) (sc := defScope t_law) (by decide +kernel))
        (fun _ _ _ _ _ => pg_name (i := 11) sc_law.nd rfl (Or.inl rfl)) (fun _ _ _ _ _ => pts_nil)
        (fun _ _ _ _ _ => pe_callTy (T := "list") (r := rListOf K) call_listOf (by rfl) T.z_list (by decide +kernel) (pa_cons (pv 11) pa_nil)))
      (pss_cons (ps_for PassesOwn.never rfl (pi_range1 (by rfl) T.z_range (pa_cons (pe_callB call_len_seq (by rfl) T.z_len PySem.boot_len (pa_cons (pv 2) pa_nil)) pa_nil)) (pg_name (i := 4) sc_law.nd rfl (.inl rfl))
      (pss_cons (ps_par (i := 12) (j := 5) (by rfl) sc_law.nd rfl rfl (by decide) rfl rfl (pa_cons (pe_ix ix_list (pv 3) (pv 4) (fun _ _ => rfl)) (pa_cons (pe_ix ix_list (pv 3) (pe_op op_sub (pv 4) pe_int) (fun _ _ => rfl)) pa_nil)) (by rfl))
      (pss_cons (ps_for PassesOwn.never rfl (pi_tup (pe_tup (pa_cons (pe_call (ok_multiplied T) (hr.mono (by decide)) (by rfl) T.g_multiplied T.F_multiplied.kp T.b_multiplied .nil pass0 (pa_cons (pv 12) (pa_cons (pv 5) pa_nil))) (pa_cons (pe_call (ok_multiplied T) (hr.mono (by decide)) (by rfl) T.g_multiplied T.F_multiplied.kp T.b_multiplied .nil pass0 (pa_cons (pv 5) (pa_cons (pv 12) pa_nil))) pa_nil)))) (pg_name (i := 6) sc_law.nd rfl (.inl rfl))
      (pss_one (ps_if (pt_not (pt_val (pe_call (ok_Lis_row_for T) (hr.mono (by decide)) (by rfl) T.g_Lis_row_for T.F_Lis_row_for.kp T.b_Lis_row_for .nil pass0 (pa_cons (pv 6) (pa_cons (pe_op op_mulW (pe_ix ix_list (pv 1) (pv 4) (fun _ _ => rfl)) (pe_ix ix_list (pv 1) (pe_op op_sub (pv 4) pe_int) (fun _ _ => rfl))) pa_nil))))) (pss_one (ps_ret pe_bl)) pss_nil)))
      (pss_cons (ps_if (PW.pt (pw_or (pt_cmpR (op_neD hr.units) (pe_call (ok_multiplied T) (hr.mono (by decide)) (by rfl) T.g_multiplied T.F_multiplied.kp T.b_multiplied .nil pass0 (pa_cons (pv 12) (pa_cons (pe_lst pa_nil) pa_nil))) (pe_lst pa_nil) (nomark _)) (pw_or1 (pt_cmpR (op_neD hr.units) (pe_call (ok_multiplied T) (hr.mono (by decide)) (by rfl) T.g_multiplied T.F_multiplied.kp T.b_multiplied .nil pass0 (pa_cons (pe_lst pa_nil) (pa_cons (pv 12) pa_nil))) (pe_lst pa_nil) (nomark _))))) (pss_one (ps_ret pe_bl)) pss_nil)
      (pss_one (ps_for PassesOwn.never rfl (pi_tup (pe_tup (pa_cons (pe_call (ok_multiplied T) (hr.mono (by decide)) (by rfl) T.g_multiplied T.F_multiplied.kp T.b_multiplied .nil pass0 (pa_cons (pe_lst (pa_cons pe_int pa_nil)) (pa_cons (pv 12) pa_nil))) (pa_cons (pe_call (ok_multiplied T) (hr.mono (by decide)) (by rfl) T.g_multiplied T.F_multiplied.kp T.b_multiplied .nil pass0 (pa_cons (pv 12) (pa_cons (pe_lst (pa_cons pe_int pa_nil)) pa_nil))) pa_nil)))) (pg_name (i := 6) sc_law.nd rfl (.inl rfl))
      (pss_cons (ps_if (pt_not (pt_val (pe_call (ok_Lis_row_for T) (hr.mono (by decide)) (by rfl) T.g_Lis_row_for T.F_Lis_row_for.kp T.b_Lis_row_for .nil pass0 (pa_cons (pv 6) (pa_cons (pe_ix ix_list (pv 1) (pv 4) (fun _ _ => rfl)) pa_nil))))) (pss_one (ps_ret pe_bl)) pss_nil)
      (pss_one (ps_expr (pe_bm PySem.F.plainAttrs_list PySem.F.slot_list_append PySem.F.type_list_append mt_append (pv 6) (pa_cons pe_int pa_nil)))))))))))
      (pss_cons (ps_set (i := 7) sc_law.nd rfl (.inl rfl) (pe_call (ok_Lsmall T) (hr.mono (by decide)) (by rfl) T.g_Lsmall T.F_Lsmall.kp T.b_Lsmall .nil pass0 (pa_cons (pe_call (ok_Lcell_at T) (hr.mono (by decide)) (by rfl) T.g_Lcell_at T.F_Lcell_at.kp T.b_Lcell_at .nil pass0 (pa_cons (pv 0) (pa_cons pe_int pa_nil))) pa_nil)))
      (pss_cons (ps_set (i := 11) sc_law.nd rfl (.inr rfl) (pe_call (ok_Lrow T) (hr.mono (by decide)) (by rfl) T.g_Lrow T.F_Lrow.kp T.b_Lrow .nil pass0 (pa_cons (pv 7) (pa_cons pe_int pa_nil))))
      (pss_cons (ps_set (i := 6) sc_law.nd rfl (.inl rfl) (pe_call (ok_multiplied T) (hr.mono (by decide)) (by rfl) T.g_multiplied T.F_multiplied.kp T.b_multiplied .nil pass0 (pa_cons (pv 11) (pa_cons (pe_call (ok_together T) (hr.mono (by decide)) (by rfl) T.g_together T.F_together.kp T.b_together .nil pass0 (pa_cons (pv 3) pa_nil)) pa_nil))))
      (pss_cons (ps_if (PW.pt (pw_or (pt_not (pt_val (pe_call (ok_Lis_row_for T) (hr.mono (by decide)) (by rfl) T.g_Lis_row_for T.F_Lis_row_for.kp T.b_Lis_row_for .nil pass0 (pa_cons (pv 6) (pa_cons (pe_op op_mulW (pv 7) (pe_callB (cr_sum rfl) (by rfl) T.z_sum (by decide +kernel) (pa_cons (pv 1) pa_nil))) pa_nil))))) (pw_or1 (pt_cmpR (op_neD hr.units) (pv 3) (pv 2) (nomark _))))) (pss_one (ps_ret pe_bl)) pss_nil)
      (pss_cons (ps_set (i := 8) sc_law.nd rfl (.inl rfl) (pe_callTy call_list_of (by rfl) T.z_list (by decide +kernel) (pa_cons (pv 6) pa_nil)))
      (pss_cons (ps_expr (pe_bm PySem.F.plainAttrs_list PySem.F.slot_list_append PySem.F.type_list_append mt_append (pv 6) (pa_cons pe_int pa_nil)))
      (pss_one (ps_ret (pe_and (pe_cmpR (op_eqD hr.units) (pe_call (ok_together T) (hr.mono (by decide)) (by rfl) T.g_together T.F_together.kp T.b_together .nil pass0 (pa_cons (pe_lc (own := [("_law_one", 12)]) (g := gName 12) (tt := tYes) (by rfl) sc_law.nd (pi_list (pv 3))
        (blkOk_by (N := ["_law_script", "_law_numbers", "_law_rows", "_law_handed", "_law_k", "_law_other", "_law_found", "_law_factor", "_law_due", "_law_cell", "_law_number_here", "_law_row_here", "_law_one"]) (own := [("_law_one", 12)]) (sc := defScope t_law) (by decide +kernel))
        (fun _ _ _ _ _ => pg_name (i := 12) sc_law.nd rfl (Or.inl rfl)) (fun _ _ _ _ _ => pts_nil)
        (fun _ _ _ _ _ => pe_call (ok_multiplied T) (by exact hr.mono (by decide)) (by rfl) T.g_multiplied T.F_multiplied.kp T.b_multiplied .nil pass0 (pa_cons (pv 12) (pa_cons (pv 11) pa_nil)))) pa_nil)) (pv 8) (nomark _)) (pe_one (pe_cmpR (op_eqD hr.units) (pe_call (ok_multiplied T) (hr.mono (by decide)) (by rfl) T.g_multiplied T.F_multiplied.kp T.b_multiplied .nil pass0 (pa_cons (pe_call (ok_together T) (hr.mono (by decide)) (by rfl) T.g_together T.F_together.kp T.b_together .nil pass0 (pa_cons (pv 3) pa_nil)) (pa_cons (pv 11) pa_nil))) (pv 8) (nomark _)))))))))))))))), ?_⟩
    have e0 : Row [] := ⟨(fun _ hm => nomatch hm), fun z => nomatch z⟩
    have e1 : Row [1] := ⟨fun n hn => by rw [List.mem_singleton.mp hn]; decide, by decide⟩
    have v1 : val [1] = 1 := rfl
    have lim : (4000100 : Nat) ≤ sizeLine := by decide
    have p105 : (17 : Nat) * 2 ^ 100 < 2 ^ 105 := by decide +kernel
    have p205 : (17 : Nat) * 2 ^ 200 < 2 ^ 205 := by decide +kernel
    refine ⟨.ref a, rfl, 1, rfl, 17, rfl, a, ns.map V.int, rfl, hS, fun c1 nc1 => ?_⟩
    obtain ⟨ms, ems, lms⟩ := cut17 ns
    rw [ems]
    have s1 : Same H (upd H c1 (.lst (ms.map V.int))) := same_upd nc1
    have k1 : (upd H c1 (.lst (ms.map V.int))) c1 = some (.lst (ms.map V.int)) := upd_same
    generalize upd H c1 (.lst (ms.map V.int)) = H1 at s1 k1
    refine ⟨c1, rfl, ⟨_, SqL.of k1⟩, fun D1 nD1 => ?_⟩
    refine lc_list (K := K) (a := c1) (xs := ms.map V.int) (fun i Hx => ∃ zs : List Int, zs.length = i ∧ (∀ z ∈ zs, z.natAbs < 2 ^ 100) ∧ Same H1 Hx ∧ Hx D1 = some (.lst (zs.map V.int))) ⟨[], rfl, (fun _ hm => nomatch hm), same_upd nD1, upd_same⟩ (fun i Hx _ e => by obtain ⟨_, _, _, s, _⟩ := e; exact SqL.of (s _ _ k1)) (fun i y Hx hy e => ?_) (fun H2 e => ?_)
    · obtain ⟨zs, hi, hz, sx, eD⟩ := e
      have hlt := (List.getElem?_eq_some_iff.mp hy).1
      rw [List.length_map] at hlt
      obtain ⟨c, _, rfl⟩ := List.mem_map.mp (List.mem_of_getElem? hy)
      refine ⟨rfl, .int c, rfl, c, rfl, fun H3 z s3 hz3 => ?_⟩
      refine ⟨_, s3 _ _ eD, by rw [List.length_map]; omega, zs ++ [z], by simp [hi], fun x hx => ?_, fun b u e => ?_, ?_⟩
      · rcases List.mem_append.mp hx with m | m
        · exact hz x m
        · rw [List.mem_singleton.mp m]
          exact hz3
      · rw [upd_ne (ne_of_none e nD1)]
        exact s3 _ _ (sx _ _ e)
      · rw [upd_same, List.map_append]
        rfl
    obtain ⟨zs0, hi0, hz0, s2, eD1⟩ := e
    rw [List.length_map] at hi0
    refine ⟨small_ok (by simp), fun l nl => ?_⟩
    have s3 : Same H2 (upd H2 l (.lst [.int 3])) := same_upd nl
    have el : (upd H2 l (.lst [.int 3])) l = some (.lst [.int 3]) := upd_same
    generalize upd H2 l (.lst [.int 3]) = H3 at s3 el
    refine ⟨D1, l, _, _, rfl, rfl, s3 _ _ eD1, el, by rw [List.length_map]; show zs0.length + 1 ≤ sizeLine; omega, fun nb nnb => ?_⟩
    have s4 : Same H3 (upd H3 nb (.lst (zs0.map V.int ++ [.int 3]))) := same_upd nnb
    have enb : (upd H3 nb (.lst (zs0.map V.int ++ [.int 3]))) nb = some (.lst ((zs0 ++ [3]).map V.int)) := by
      rw [upd_same, List.map_append]
      rfl
    generalize upd H3 nb (.lst (zs0.map V.int ++ [.int 3])) = H4 at s4 enb
    have t4 : Same H H4 := s1.trans (s2.trans (s3.trans s4))
    have hz : ∀ z ∈ zs0 ++ [3], z.natAbs < 2 ^ 100 := fun x hx => by
      rcases List.mem_append.mp hx with m | m
      · exact hz0 x m
      · rw [List.mem_singleton.mp m]
        decide
    have hzl : (zs0 ++ [3]).length ≤ 17 := by simp; omega
    generalize zs0 ++ [3] = zs at enb hz hzl
    have lz : (zs.map V.int).length = zs.length := List.length_map ..
    -- the rows
    refine ⟨.ref nb, rfl, nb, rfl, ⟨_, SqL.of enb⟩, fun D2 nD2 => ?_⟩
    refine lc_list (K := K) (a := nb) (xs := zs.map V.int) (fun i Hx => ∃ as rs, Own Hx as rs ∧ D2 ∉ as ∧ rs.map val = zs.take i ∧ (∀ r ∈ rs, Row r ∧ r.length ≤ 101) ∧ Same H4 Hx ∧ Hx D2 = some (.lst (as.map V.ref))) ⟨[], [], .nil, by simp, rfl, (fun _ hm => nomatch hm), same_upd nD2, upd_same⟩
      (fun i Hx _ e => by obtain ⟨_, _, _, _, _, _, s, _⟩ := e; exact SqL.of (s _ _ enb)) (fun i y Hx hy e => ?_) (fun H5 e => ?_)
    · obtain ⟨as, rs, own, nA, hv, hrow, sx, eD⟩ := e
      have hlt := (List.getElem?_eq_some_iff.mp hy).1
      rw [lz] at hlt
      have lr : rs.length ≤ zs.length := by
        have := congrArg List.length hv
        rw [List.length_map, List.length_take] at this
        omega
      have ey : y = .int zs[i] := by
        rw [List.getElem?_map, List.getElem?_eq_getElem hlt] at hy
        exact (Option.some.inj hy).symm
      subst ey
      refine ⟨rfl, .int zs[i], rfl, .int zs[i], rfl, zs[i], 4, rfl, by decide, by decide, zs[i], _, 100, rfl, hz _ (List.getElem_mem hlt), by decide, fun H6 p r s6 np rr rv rl ep => ?_⟩
      have pD : p ≠ D2 := fun z => by rw [z, eD] at np; cases np
      refine ⟨_, s6 _ _ eD, by rw [List.length_map, own.len]; omega, as ++ [p], rs ++ [r], ?_, ?_, ?_, fun q hq => ?_, fun b u e => ?_, ?_⟩
      · refine ((own.mono s6).snoc ep).but (x := D2) ?_ upd_but
        intro m
        rcases List.mem_append.mp m with m | m
        · exact nA m
        · exact pD (List.mem_singleton.mp m).symm
      · intro m
        rcases List.mem_append.mp m with m | m
        · exact nA m
        · exact pD (List.mem_singleton.mp m).symm
      · rw [List.map_append, hv, List.take_add_one, List.getElem?_eq_getElem hlt]
        show zs.take i ++ [val r] = zs.take i ++ [zs[i]]
        rw [rv]
      · rcases List.mem_append.mp hq with m | m
        · exact hrow q m
        · rw [List.mem_singleton.mp m]
          exact ⟨rr, rl⟩
      · rw [upd_ne (ne_of_none e nD2)]
        exact s6 _ _ (sx _ _ e)
      · rw [upd_same, List.map_append]
        rfl
    obtain ⟨as, rs, own, nA, hv, hrow, s5, eD2⟩ := e
    rw [lz, List.take_length] at hv
    have lr : rs.length = zs.length := by
      have := congrArg List.length hv
      rwa [List.length_map] at this
    have la := own.len
    have hval : ∀ r ∈ rs, (val r).natAbs < 2 ^ 100 := fun r hr => hz _ (by rw [← hv]; exact List.mem_map_of_mem hr)
    have hrow4 : ∀ r ∈ rs, Row r ∧ r.length ≤ 4000000 := fun r hr => ⟨(hrow r hr).1, Nat.le_trans (hrow r hr).2 (by decide)⟩
    have htot : (total rs).natAbs < 2 ^ 105 := Nat.lt_of_le_of_lt (total_lt rs hval (by omega : rs.length ≤ 17)) p105
    -- handed
    refine ⟨.ref D2, rfl, D2, rfl, ⟨_, SqL.of eD2⟩, fun D nD => ?_⟩
    refine lc_list (K := K) (a := D2) (xs := as.map V.ref) (Copied H5 D rs) (Copied.start nD) (fun i Hx _ e => by obtain ⟨_, _, _, s, _⟩ := e; exact SqL.of (s _ _ eD2)) (fun i y Hx hy e => ?_) (fun H6 e => ?_)
    · obtain ⟨b, r, rfl, _, hr2, hs⟩ := (own.ints (K := K)).get hy
      have sx : Same H5 Hx := by obtain ⟨_, _, _, s, _⟩ := e; exact s
      refine ⟨rfl, .ref b, rfl, b, r.map V.int, rfl, .inl (sx.seq hs), fun l nl => ?_⟩
      obtain ⟨acc, h1, h2, h3⟩ := e.step nD hr2 nl
      exact ⟨acc, h1, by omega, h3⟩
    obtain ⟨bs, ownB, nDB, s6, eD, _⟩ := e.done (by rw [List.length_map]; omega)
    have own6 := own.mono s6
    have lb := ownB.len
    have eD26 := s6 _ _ eD2
    have enb6 := s6 _ _ (s5 _ _ enb)
    have t6 : Same H H6 := t4.trans (s5.trans s6)
    -- neighbours
    refine ⟨.ref D2, rfl, D2, _, rfl, .inl (SqL.of eD26), ((as.map V.ref).length : Int), rfl, by rw [List.length_map]; omega, by rw [List.length_map]; omega, ?_⟩
    have lar : (as.map V.ref).length = rs.length := by rw [List.length_map, la]
    rw [lar]
    refine for_range (lo := 0) (n := rs.length) (fun i σ Hx => Same H6 Hx ∧ ∃ y4 y5 y6 y12, σ = [some (.ref a), some (.ref nb), some (.ref D2), some (.ref D), y4, y5, y6, none, none, none, none, none, y12]) ⟨Same.refl _, _, _, _, _, rfl⟩ (fun i σ H7 hi e => ?_) (fun σ H7 e => ?_)
    · obtain ⟨s7, y4, y5, y6, y12, rfl⟩ := e
      have hj := prev_lt hi
      have zi : zs[i]? = some (val rs[i]) := by rw [← hv, List.getElem?_map, List.getElem?_eq_getElem hi]; rfl
      have zj : zs[prev rs.length i]? = some (val rs[prev rs.length i]) := by rw [← hv, List.getElem?_map, List.getElem?_eq_getElem hj]; rfl
      obtain ⟨b1, hb1, eb1⟩ := ownB.get (List.getElem?_eq_getElem hi)
      obtain ⟨b2, hb2, eb2⟩ := ownB.get (List.getElem?_eq_getElem hj)
      have vi := hval _ (List.getElem_mem hi)
      have vj := hval _ (List.getElem_mem hj)
      have ri := hrow4 _ (List.getElem_mem hi)
      have rj := hrow4 _ (List.getElem_mem hj)
      generalize rs[i] = x at zi eb1 vi ri
      generalize rs[prev rs.length i] = y at zj eb2 vj rj
      have gi : atI (bs.map V.ref) (0 + (i : Int)) = some (.ref b1) := by
        rw [Int.zero_add]
        exact atI_nat (by rw [List.getElem?_map, hb1]; rfl)
      have gj : atI (bs.map V.ref) (0 + (i : Int) - 1) = some (.ref b2) := by
        rw [Int.zero_add]
        exact atI_prev hi (by rw [List.length_map, lb]) (by rw [List.getElem?_map, hb2]; rfl)
      have ni : atI (zs.map V.int) (0 + (i : Int)) = some (.int (val x)) := by
        rw [Int.zero_add]
        exact atI_nat (by rw [List.getElem?_map, zi]; rfl)
      have nj : atI (zs.map V.int) (0 + (i : Int) - 1) = some (.int (val y)) := by
        rw [Int.zero_add]
        exact atI_prev hi (by rw [lz, lr]) (by rw [List.getElem?_map, zj]; rfl)
      have eD7 := s7 _ _ eD
      have rx : RowAt K H7 b1 x := ⟨SqL.of (s7 _ _ eb1), ri⟩
      have ry : RowAt K H7 b2 y := ⟨SqL.of (s7 _ _ eb2), rj⟩
      refine ⟨.ref D, rfl, .int (0 + i), rfl, D, _, _, .ref b1, rfl, rfl, SqL.of eD7, gi, .ref D, rfl, .int (0 + i), rfl, _, _, rfl, rfl, D, _, _, .ref b2, rfl, rfl, SqL.of eD7, gj, _, _, rfl, ?_⟩
      refine ⟨.ref b1, rfl, .ref b2, rfl, b1, b2, x, y, 100, 100, rfl, rx, ry, vi, vj, by decide, by decide, by decide, fun H8 p1 r1 s8 np1 rr1 rg1 rv1 rl1 ep1 => ?_⟩
      refine ⟨.ref b2, rfl, .ref b1, rfl, b2, b1, y, x, 100, 100, rfl, ry.mono s8, rx.mono s8, vj, vi, by decide, by decide, by decide, fun H9 p2 r2 s9 np2 rr2 rg2 rv2 rl2 ep2 => ?_⟩
      refine ⟨(by show 2 ≤ sizeLine; decide), fun t nt => ?_⟩
      have s10 : Same H9 (upd H9 t (.tup [.ref p1, .ref p2])) := same_upd nt
      have et : (upd H9 t (.tup [.ref p1, .ref p2])) t = some (.tup [.ref p1, .ref p2]) := upd_same
      generalize upd H9 t (.tup [.ref p1, .ref p2]) = H10 at s10 et
      have t10 := s8.trans (s9.trans s10)
      have kp1 : RowAt K H10 p1 r1 := ⟨SqL.of (s10 _ _ (s9 _ _ ep1)), rr1, by omega⟩
      have kp2 : RowAt K H10 p2 r2 := ⟨SqL.of (s10 _ _ ep2), rr2, by omega⟩
      refine ⟨t, rfl, ⟨_, SqT.of et⟩, ?_⟩
      refine for_tup (xs := [.ref p1, .ref p2]) (fun j σ Hx => Same H10 Hx ∧ ∃ z6, σ = [some (.ref a), some (.ref nb), some (.ref D2), some (.ref D), some (.int (0 + i)), some (.ref b2), z6, none, none, none, none, none, some (.ref b1)]) ⟨Same.refl _, _, rfl⟩ (fun j σ Hx _ e => SqT.of (e.1 _ _ et)) (fun j v σ Hx hv2 e => ?_) (fun σ H11 e => ?_)
      · obtain ⟨sx, z6, rfl⟩ := e
        have one : ∃ p r, v = .ref p ∧ RowAt K Hx p r ∧ gaps r = true ∧ val r = val x * val y := by
          have hm : v ∈ [V.ref p1, .ref p2] := List.mem_of_getElem? hv2
          rcases List.mem_cons.mp hm with h | hm
          · exact ⟨p1, r1, h, kp1.mono sx, rg1, rv1⟩
          · exact ⟨p2, r2, List.mem_singleton.mp hm, kp2.mono sx, rg2, by rw [rv2, Int.mul_comm]⟩
        obtain ⟨p, r, rfl, kp, rg, rv⟩ := one
        have enbx := sx _ _ (t10 _ _ (s7 _ _ enb6))
        refine ⟨.ref p, rfl, .ref nb, rfl, .int (0 + i), rfl, nb, _, _, .int (val x), rfl, rfl, SqL.of enbx, ni, .ref nb, rfl, .int (0 + i), rfl, _, _, rfl, rfl, nb, _, _, .int (val y), rfl, rfl, SqL.of enbx, nj, _, _, rfl, rfl, wide_mul vi vj (by decide) (by decide) (by decide), p, r, _, rfl, kp, fun Hy sy => ⟨_, rfl, ?_⟩⟩
        rw [rg, rv, decide_eq_true rfl]
        exact iteF ⟨sx.trans sy, _, rfl⟩
      obtain ⟨s11, z6, rfl⟩ := e
      have t11 := t10.trans s11
      have rx11 := rx.mono t11
      refine ⟨.ref b1, rfl, Nat.zero_le _, fun l1 n1 => ?_⟩
      have s12 : Same H11 (upd H11 l1 (.lst [])) := same_upd n1
      have k12 : RowAt K (upd H11 l1 (.lst [])) l1 [] := ⟨SqL.of upd_same, e0, Nat.zero_le _⟩
      generalize upd H11 l1 (.lst []) = H12 at s12 k12
      refine ⟨b1, l1, x, [], 100, 1, rfl, rx11.mono s12, k12, vi, by decide, by decide, by decide, by decide, fun H13 u us s13 nu ur ug uv ul eu => ?_⟩
      have us0 : us = [] := lean_only us [] ur e0 ug rfl (by rw [uv]; exact Int.mul_zero _)
      subst us0
      refine ⟨Nat.zero_le _, fun l2 n2 => ?_⟩
      have s14 : Same H13 (upd H13 l2 (.lst [])) := same_upd n2
      refine ⟨dI [], dI [], dp_ints (s14.seq (SqL.of eu)), dp_ints (SqL.of upd_same), dI_shaped _, dI_shaped _, _, rfl, ?_⟩
      rw [dI_eqv, decide_eq_true rfl]
      refine iteF ?_
      generalize upd H13 l2 (.lst []) = H14 at s14
      have t14 := t11.trans (s12.trans (s13.trans s14))
      refine ⟨Nat.zero_le _, fun l3 n3 => ?_⟩
      have s15 : Same H14 (upd H14 l3 (.lst [])) := same_upd n3
      have k15 : RowAt K (upd H14 l3 (.lst [])) l3 [] := ⟨SqL.of upd_same, e0, Nat.zero_le _⟩
      generalize upd H14 l3 (.lst []) = H15 at s15 k15
      refine ⟨.ref b1, rfl, l3, b1, [], x, 1, 100, rfl, k15, rx.mono (t14.trans s15), by decide, vi, by decide, by decide, by decide, fun H16 w ws s16 nw wr wg wv wl ew => ?_⟩
      have ws0 : ws = [] := lean_only ws [] wr e0 wg rfl (by rw [wv]; exact Int.zero_mul _)
      subst ws0
      refine ⟨Nat.zero_le _, fun l4 n4 => ?_⟩
      have s17 : Same H16 (upd H16 l4 (.lst [])) := same_upd n4
      refine ⟨dI [], dI [], dp_ints (s17.seq (SqL.of ew)), dp_ints (SqL.of upd_same), dI_shaped _, dI_shaped _, _, rfl, ?_⟩
      rw [dI_eqv, decide_eq_true rfl]
      refine iteF ?_
      generalize upd H16 l4 (.lst []) = H17 at s17
      have t17 := t14.trans (s15.trans (s16.trans s17))
      have rx17 := rx.mono t17
      refine ⟨small_ok (by simp), fun l5 n5 => ?_⟩
      have s18 : Same H17 (upd H17 l5 (.lst [.int 1])) := same_upd n5
      have k18 : RowAt K (upd H17 l5 (.lst [.int 1])) l5 [1] := ⟨SqL.of upd_same, e1, by show 1 ≤ 4000000; decide⟩
      generalize upd H17 l5 (.lst [.int 1]) = H18 at s18 k18
      refine ⟨.ref b1, rfl, l5, b1, [1], x, 1, 100, rfl, k18, rx17.mono s18, by decide, vi, by decide, by decide, by decide, fun H19 o1 r3 s19 no1 rr3 rg3 rv3 rl3 eo1 => ?_⟩
      rw [v1, Int.one_mul] at rv3
      refine ⟨.ref b1, rfl, small_ok (by simp), fun l6 n6 => ?_⟩
      have s20 : Same H19 (upd H19 l6 (.lst [.int 1])) := same_upd n6
      have k20 : RowAt K (upd H19 l6 (.lst [.int 1])) l6 [1] := ⟨SqL.of upd_same, e1, by show 1 ≤ 4000000; decide⟩
      generalize upd H19 l6 (.lst [.int 1]) = H20 at s20 k20
      have t20 := s18.trans (s19.trans s20)
      refine ⟨b1, l6, x, [1], 100, 1, rfl, rx17.mono t20, k20, vi, by decide, by decide, by decide, by decide, fun H21 o2 r4 s21 no2 rr4 rg4 rv4 rl4 eo2 => ?_⟩
      rw [v1, Int.mul_one] at rv4
      have e34 : r4 = r3 := lean_only r4 r3 rr4 rr3 rg4 rg3 (by rw [rv4, rv3])
      subst e34
      have eo1' := s21 _ _ (s20 _ _ eo1)
      have d12 : o1 ≠ o2 := fun e => by rw [← e, s20 _ _ eo1] at no2; cases no2
      refine ⟨(by show 2 ≤ sizeLine; decide), fun t2 nt2 => ?_⟩
      have s22 : Same H21 (upd H21 t2 (.tup [.ref o1, .ref o2])) := same_upd nt2
      have et2 : (upd H21 t2 (.tup [.ref o1, .ref o2])) t2 = some (.tup ([o1, o2].map V.ref)) := upd_same
      generalize upd H21 t2 (.tup [.ref o1, .ref o2]) = H22 at s22 et2
      have g1 : H17 o1 = none := none_same s18 no1
      have g2 : H17 o2 = none := none_same t20 no2
      have t22 := t20.trans (s21.trans s22)
      have all22 : ∀ o ∈ [o1, o2], H22 o = some (.lst (r4.map V.int)) ∧ H17 o = none := fun o ho => by
        rcases List.mem_cons.mp ho with e | ho
        · subst e; exact ⟨s22 _ _ eo1', g1⟩
        · have e := List.mem_singleton.mp ho
          subst e; exact ⟨s22 _ _ eo2, g2⟩
      have nodup : [o1, o2].Nodup := by simp [d12]
      have nt0 : t2 ∉ [o1, o2] := fun m => by
        have := (all22 t2 m).1
        rw [et2] at this
        cases this
      generalize [o1, o2] = os at et2 all22 nodup nt0
      have base17 := s7.trans t17
      refine ⟨t2, rfl, ⟨_, SqT.of et2⟩, ?_⟩
      refine for_tup (xs := os.map V.ref) (fun j σ Hx => Same H17 Hx ∧ Hx t2 = some (.tup (os.map V.ref)) ∧ (∀ k o, j ≤ k → os[k]? = some o → Hx o = some (.lst (r4.map V.int))) ∧ ∃ z6, σ = [some (.ref a), some (.ref nb), some (.ref D2), some (.ref D), some (.int (0 + i)), some (.ref b2), z6, none, none, none, none, none, some (.ref b1)]) ⟨t22, et2, fun k o _ ho => (all22 o (List.mem_of_getElem? ho)).1, _, rfl⟩ (fun j σ Hx _ e => SqT.of e.2.1) (fun j v σ Hx hv2 e => ?_) (fun σ Hx e => ?_)
      · obtain ⟨sx, et3, ownO, z7, rfl⟩ := e
        obtain ⟨o, ho, rfl⟩ : ∃ o, os[j]? = some o ∧ v = .ref o := by
          rw [List.getElem?_map] at hv2
          cases e : os[j]? with
          | none => rw [e] at hv2; cases hv2
          | some o => rw [e] at hv2; exact ⟨o, rfl, (Option.some.inj hv2).symm⟩
        have eo := ownO j o (Nat.le_refl _) ho
        have rP : RowAt K Hx o r4 := ⟨SqL.of eo, rr4, by omega⟩
        have enbx := sx _ _ (base17 _ _ enb6)
        refine ⟨.ref o, rfl, .ref nb, rfl, .int (0 + i), rfl, nb, _, _, .int (val x), rfl, rfl, SqL.of enbx, ni, o, r4, val x, rfl, rP, fun Hy sy => ⟨_, rfl, ?_⟩⟩
        rw [rg4, rv4, decide_eq_true rfl]
        refine iteF ?_
        have eoy := sy _ _ eo
        refine ⟨.ref o, rfl, .inl ⟨rfl, _, SqL.of eoy⟩, o, _, _, rfl, rfl, eoy, by rw [List.length_map]; omega, ?_⟩
        have mo := List.mem_of_getElem? ho
        have go := (all22 o mo).2
        refine ⟨fun c u e => ?_, ?_, fun k o' hk ho' => ?_, _, rfl⟩
        · rw [upd_ne (ne_of_none e go)]
          exact sy _ _ (sx _ _ e)
        · have ne : t2 ≠ o := fun e => nt0 (by rw [e]; exact mo)
          rw [upd_ne ne]
          exact sy _ _ et3
        · have ne : o' ≠ o := fun e => by
            subst e
            have hi := (List.getElem?_eq_some_iff.mp ho).1
            have := (List.getElem?_inj hi nodup).mp (ho.trans ho'.symm)
            omega
          rw [upd_ne ne]
          exact sy _ _ (ownO k o' (by omega) ho')
      · obtain ⟨sx, _, _, z7, rfl⟩ := e
        exact ⟨base17.trans sx, _, _, _, _, rfl⟩
    obtain ⟨s7, y4, y5, y6, y12, rfl⟩ := e
    have t7 := t6.trans s7
    refine ⟨.ref a, rfl, a, ns, 0, rfl, t7.seq hS, cell ns 0, rfl, fun H8 f s8 hf => ?_⟩
    refine ⟨.int f, rfl, f, 7, 100, rfl, hf, by decide, fun H9 p r s9 np rr rv rl ep => ?_⟩
    have kp : RowAt K H9 p r := ⟨SqL.of ep, rr, by omega⟩
    have t9 := s7.trans (s8.trans s9)
    have ownB9 := ownB.mono t9
    have eD9 := t9 _ _ eD
    have hf' : (val r).natAbs < 2 ^ 100 := by rw [rv]; exact hf
    refine ⟨.ref p, rfl, .ref D, rfl, D, bs, rs, 105, rfl, SqL.of eD9, ownB9.ints, hrow4, by omega, htot, by decide, fun H10 p2 r2 s10 np2 rr2 rg2 rv2 rl2 ep2 => ?_⟩
    have kp2 : RowAt K H10 p2 r2 := ⟨SqL.of ep2, rr2, by omega⟩
    refine ⟨p, p2, r, r2, 100, 105, rfl, kp.mono s10, kp2, hf', by rw [rv2]; exact htot, by decide, by decide, by decide, fun H11 g gr s11 ng grr grg grv grl eg => ?_⟩
    rw [rv, rv2] at grv
    have kg : RowAt K H11 g gr := ⟨SqL.of eg, grr, by omega⟩
    have t11 := t9.trans (s10.trans s11)
    have esum : zs.sum = total rs := by rw [← hv]; rfl
    refine ⟨.ref g, rfl, .int f, rfl, .ref nb, rfl, nb, zs, rfl, SqL.of (t11 _ _ enb6), _, _, rfl, rfl, wide_mul hf (by rw [esum]; exact htot) (by decide) (by decide) (by decide : 100 + 105 ≤ 1000000), g, gr, _, rfl, kg, fun H12 s12 => ⟨_, rfl, ?_⟩⟩
    rw [grg, grv, esum, decide_eq_true rfl]
    refine iteF ?_
    have t12 := t11.trans s12
    refine ⟨.ref D, rfl, .ref D2, rfl, dL rs, dL rs, dp_lists (SqL.of (t12 _ _ eD)) (ownB.mono t12).ints, dp_lists (SqL.of (t12 _ _ eD26)) (own6.mono t12).ints, dL_shaped _, dL_shaped _, _, rfl, ?_⟩
    rw [dL_eqv, decide_eq_true rfl]
    refine iteF ?_
    have eg12 := s12 _ _ eg
    refine ⟨.ref g, rfl, g, gr.map V.int, rfl, .inl (SqL.of eg12), fun du ndu => ?_⟩
    have s13 : Same H12 (upd H12 du (.lst (gr.map V.int))) := same_upd ndu
    have edu : (upd H12 du (.lst (gr.map V.int))) du = some (.lst (gr.map V.int)) := upd_same
    have dug : du ≠ g := fun z => by rw [z, eg12] at ndu; cases ndu
    generalize upd H12 du (.lst (gr.map V.int)) = H13 at s13 edu
    have eg13 := s13 _ _ eg12
    refine ⟨.ref g, rfl, .inl ⟨rfl, _, SqL.of eg13⟩, g, _, _, rfl, rfl, eg13, by rw [List.length_map]; omega, ?_⟩
    have s14 : Same H10 (upd H13 g (.lst (gr.map V.int ++ [.int 1]))) := fun c u e => by
      rw [upd_ne (ne_of_none e ng)]
      exact s13 _ _ (s12 _ _ (s11 _ _ e))
    have edu14 : (upd H13 g (.lst (gr.map V.int ++ [.int 1]))) du = some (.lst (gr.map V.int)) := by
      rw [upd_ne dug]
      exact edu
    generalize upd H13 g (.lst (gr.map V.int ++ [.int 1])) = H14 at s14 edu14
    have t14 := t9.trans (s10.trans s14)
    have kp14 := kp.mono (s10.trans s14)
    have ownB14 := ownB.mono t14
    have eD14 := t14 _ _ eD
    refine ⟨.ref D, rfl, D, rfl, ⟨_, SqL.of eD14⟩, fun L nL => ?_⟩
    have hLr : L ∉ [p] := fun m => by
      have := (kp14.1 : SqL K H14 p _)
      have z := List.mem_singleton.mp m
      have e2 := s14 _ _ (s10 _ _ ep)
      rw [← z, nL] at e2
      cases e2
    refine lc_list (K := K) (a := D) (xs := bs.map V.ref) (fun i Hx => ∃ qs qr, Own Hx qs qr ∧ L ∉ qs ∧ qr.length = i ∧ total qr = total (rs.take i) * f ∧ (∀ r ∈ qr, Row r ∧ r.length ≤ 201 ∧ (val r).natAbs < 2 ^ 200) ∧ Same H14 Hx ∧ Hx L = some (.lst (qs.map V.ref))) ⟨[], [], .nil, by simp, rfl, (by show (0 : Int) = 0 * f; omega), (fun _ hm => nomatch hm), same_upd nL, upd_same⟩
      (fun i Hx _ e => by obtain ⟨_, _, _, _, _, _, _, s, _⟩ := e; exact SqL.of (s _ _ eD14)) (fun i y Hx hy e => ?_) (fun H15 e => ?_)
    · obtain ⟨qs, qr, ownQ, nQ, hi, htq, hrq, sx, eL⟩ := e
      obtain ⟨b, x, rfl, _, hr2, hs⟩ := (ownB14.ints (K := K)).get hy
      have hm := List.mem_of_getElem? hr2
      have hlt := (List.getElem?_eq_some_iff.mp hr2).1
      refine ⟨rfl, .ref b, rfl, .ref p, rfl, b, p, x, r, 100, 100, rfl, ⟨sx.seq hs, hrow4 x hm⟩, kp14.mono sx, hval x hm, hf', by decide, by decide, by decide, fun H16 c cr s16 nc crr crg crv crl ec => ?_⟩
      have cL : c ≠ L := fun z => by rw [z, eL] at nc; cases nc
      refine ⟨_, s16 _ _ eL, by rw [List.length_map, ownQ.len]; omega, qs ++ [c], qr ++ [cr], ?_, ?_, by simp [hi], ?_, fun v hv2 => ?_, fun b u e => ?_, ?_⟩
      · refine ((ownQ.mono s16).snoc ec).but (x := L) ?_ upd_but
        intro m
        rcases List.mem_append.mp m with m | m
        · exact nQ m
        · exact cL (List.mem_singleton.mp m).symm
      · intro m
        rcases List.mem_append.mp m with m | m
        · exact nQ m
        · exact cL (List.mem_singleton.mp m).symm
      · rw [total_snoc, htq, crv, rv, List.take_add_one, hr2]
        show _ = total (rs.take i ++ [x]) * f
        rw [total_snoc, Int.add_mul]
      · rcases List.mem_append.mp hv2 with m | m
        · exact hrq v m
        · rw [List.mem_singleton.mp m]
          refine ⟨crr, crl, ?_⟩
          rw [crv]
          exact wide_lt (hval x hm) hf'
      · rw [upd_ne (ne_of_none e nL)]
        exact s16 _ _ (sx _ _ e)
      · rw [upd_same, List.map_append]
        rfl
    obtain ⟨qs, qr, ownQ, nQ, hi, htq, hrq, s15, eL⟩ := e
    rw [List.length_map, lb] at hi
    rw [List.length_map, lb, List.take_length] at htq
    have btq : (total qr).natAbs < 2 ^ 205 := Nat.lt_of_le_of_lt (total_lt qr (fun v hv2 => (hrq v hv2).2.2) (by omega : qr.length ≤ 17)) p205
    refine ⟨L, qs, qr, 205, rfl, SqL.of eL, ownQ.ints, fun v hv2 => ⟨(hrq v hv2).1, Nat.le_trans (hrq v hv2).2.1 (by decide)⟩, by omega, btq, by decide, fun H16 u us s16 nu ur ug uv ul eu => ?_⟩
    have same1 : us = gr := lean_only us gr ur grr ug grg (by rw [uv, htq, grv, Int.mul_comm])
    subst same1
    refine ⟨.ref du, rfl, dI us, dI us, dp_ints (SqL.of eu), dp_ints (SqL.of (s16 _ _ (s15 _ _ edu14))), dI_shaped _, dI_shaped _, _, rfl, ?_⟩
    rw [dI_eqv, decide_eq_true rfl]
    refine iteT ?_
    have t16 := s15.trans s16
    refine ⟨.ref D, rfl, D, bs, rs, 105, rfl, SqL.of (t16 _ _ eD14), (ownB14.mono t16).ints, hrow4, by omega, htot, by decide, fun H17 p3 r3 s17 np3 rr3 rg3 rv3 rl3 ep3 => ?_⟩
    have kp3 : RowAt K H17 p3 r3 := ⟨SqL.of ep3, rr3, by omega⟩
    refine ⟨.ref p, rfl, p3, p, r3, r, 105, 100, rfl, kp3, kp14.mono (t16.trans s17), by rw [rv3]; exact htot, hf', by decide, by decide, by decide, fun H18 w ws s18 nw wr wg wv wl ew => ?_⟩
    have same2 : ws = us := lean_only ws us wr ur wg ug (by rw [wv, rv3, rv, grv, Int.mul_comm])
    subst same2
    refine ⟨.ref du, rfl, dI ws, dI ws, dp_ints (SqL.of ew), dp_ints (SqL.of (s18 _ _ (s17 _ _ (t16 _ _ edu14)))), dI_shaped _, dI_shaped _, ?_⟩
    rw [dI_eqv, decide_eq_true rfl]
    exact q _
end
/-! ### what the top has written; the law's own head -/
theorem all_mk {l : PySem.W.OpenLaw} {w : World} {K : PySem.W.Frag} {h : Heap} {mg : Str → Option Value} {fa : Addr} (X : K.In h) (G : h.Ns mainGlobals mg) (hfa : mg "law" = some (.ref fa))
    {f_is_whole : Addr} {od_is_whole an_is_whole : Option Addr} {sl_is_whole : Array (Option Value)} {oc_is_whole kV_is_whole dc_is_whole pm_is_whole cd_is_whole ct_is_whole : Value}
    (a_is_whole : PySem.W.nsIn K mainGlobals "is_whole" = some (some (.ref f_is_whole)))
    (l_is_whole : K.lookup f_is_whole = some ⟨oc_is_whole, od_is_whole, .func (PySem.W.fnOf "is_whole" "is_whole" (defArgs t_is_whole) (defBody t_is_whole) (defScope t_is_whole) .none kV_is_whole dc_is_whole pm_is_whole an_is_whole cd_is_whole ct_is_whole), sl_is_whole⟩)
    (c_is_whole : PySem.W.codeIn K cd_is_whole "is_whole" = true) (k_is_whole : PySem.W.keepIn K (.ref f_is_whole) = true)
    {f_is_figure : Addr} {od_is_figure an_is_figure : Option Addr} {sl_is_figure : Array (Option Value)} {oc_is_figure kV_is_figure dc_is_figure pm_is_figure cd_is_figure ct_is_figure : Value}
    (a_is_figure : PySem.W.nsIn K mainGlobals "is_figure" = some (some (.ref f_is_figure)))
    (l_is_figure : K.lookup f_is_figure = some ⟨oc_is_figure, od_is_figure, .func (PySem.W.fnOf "is_figure" "is_figure" (defArgs t_is_figure) (defBody t_is_figure) (defScope t_is_figure) .none kV_is_figure dc_is_figure pm_is_figure an_is_figure cd_is_figure ct_is_figure), sl_is_figure⟩)
    (c_is_figure : PySem.W.codeIn K cd_is_figure "is_figure" = true) (k_is_figure : PySem.W.keepIn K (.ref f_is_figure) = true)
    {f_is_row : Addr} {od_is_row an_is_row : Option Addr} {sl_is_row : Array (Option Value)} {oc_is_row kV_is_row dc_is_row pm_is_row cd_is_row ct_is_row : Value}
    (a_is_row : PySem.W.nsIn K mainGlobals "is_row" = some (some (.ref f_is_row)))
    (l_is_row : K.lookup f_is_row = some ⟨oc_is_row, od_is_row, .func (PySem.W.fnOf "is_row" "is_row" (defArgs t_is_row) (defBody t_is_row) (defScope t_is_row) .none kV_is_row dc_is_row pm_is_row an_is_row cd_is_row ct_is_row), sl_is_row⟩)
    (c_is_row : PySem.W.codeIn K cd_is_row "is_row" = true) (k_is_row : PySem.W.keepIn K (.ref f_is_row) = true)
    {f_refuse_no_row : Addr} {od_refuse_no_row an_refuse_no_row : Option Addr} {sl_refuse_no_row : Array (Option Value)} {oc_refuse_no_row kV_refuse_no_row dc_refuse_no_row pm_refuse_no_row cd_refuse_no_row ct_refuse_no_row : Value}
    (a_refuse_no_row : PySem.W.nsIn K mainGlobals "refuse_no_row" = some (some (.ref f_refuse_no_row)))
    (l_refuse_no_row : K.lookup f_refuse_no_row = some ⟨oc_refuse_no_row, od_refuse_no_row, .func (PySem.W.fnOf "refuse_no_row" "refuse_no_row" (defArgs t_refuse_no_row) (defBody t_refuse_no_row) (defScope t_refuse_no_row) .none kV_refuse_no_row dc_refuse_no_row pm_refuse_no_row an_refuse_no_row cd_refuse_no_row ct_refuse_no_row), sl_refuse_no_row⟩)
    (c_refuse_no_row : PySem.W.codeIn K cd_refuse_no_row "refuse_no_row" = true) (k_refuse_no_row : PySem.W.keepIn K (.ref f_refuse_no_row) = true)
    {f_refuse_no_number : Addr} {od_refuse_no_number an_refuse_no_number : Option Addr} {sl_refuse_no_number : Array (Option Value)} {oc_refuse_no_number kV_refuse_no_number dc_refuse_no_number pm_refuse_no_number cd_refuse_no_number ct_refuse_no_number : Value}
    (a_refuse_no_number : PySem.W.nsIn K mainGlobals "refuse_no_number" = some (some (.ref f_refuse_no_number)))
    (l_refuse_no_number : K.lookup f_refuse_no_number = some ⟨oc_refuse_no_number, od_refuse_no_number, .func (PySem.W.fnOf "refuse_no_number" "refuse_no_number" (defArgs t_refuse_no_number) (defBody t_refuse_no_number) (defScope t_refuse_no_number) .none kV_refuse_no_number dc_refuse_no_number pm_refuse_no_number an_refuse_no_number cd_refuse_no_number ct_refuse_no_number), sl_refuse_no_number⟩)
    (c_refuse_no_number : PySem.W.codeIn K cd_refuse_no_number "refuse_no_number" = true) (k_refuse_no_number : PySem.W.keepIn K (.ref f_refuse_no_number) = true)
    {f_worth : Addr} {od_worth an_worth : Option Addr} {sl_worth : Array (Option Value)} {oc_worth kV_worth dc_worth pm_worth cd_worth ct_worth : Value}
    (a_worth : PySem.W.nsIn K mainGlobals "worth" = some (some (.ref f_worth)))
    (l_worth : K.lookup f_worth = some ⟨oc_worth, od_worth, .func (PySem.W.fnOf "worth" "worth" (defArgs t_worth) (defBody t_worth) (defScope t_worth) .none kV_worth dc_worth pm_worth an_worth cd_worth ct_worth), sl_worth⟩)
    (c_worth : PySem.W.codeIn K cd_worth "worth" = true) (k_worth : PySem.W.keepIn K (.ref f_worth) = true)
    {f_marked : Addr} {od_marked an_marked : Option Addr} {sl_marked : Array (Option Value)} {oc_marked kV_marked dc_marked pm_marked cd_marked ct_marked : Value}
    (a_marked : PySem.W.nsIn K mainGlobals "marked" = some (some (.ref f_marked)))
    (l_marked : K.lookup f_marked = some ⟨oc_marked, od_marked, .func (PySem.W.fnOf "marked" "marked" (defArgs t_marked) (defBody t_marked) (defScope t_marked) .none kV_marked dc_marked pm_marked an_marked cd_marked ct_marked), sl_marked⟩)
    (c_marked : PySem.W.codeIn K cd_marked "marked" = true) (k_marked : PySem.W.keepIn K (.ref f_marked) = true)
    {f_lean : Addr} {od_lean an_lean : Option Addr} {sl_lean : Array (Option Value)} {oc_lean kV_lean dc_lean pm_lean cd_lean ct_lean : Value}
    (a_lean : PySem.W.nsIn K mainGlobals "lean" = some (some (.ref f_lean)))
    (l_lean : K.lookup f_lean = some ⟨oc_lean, od_lean, .func (PySem.W.fnOf "lean" "lean" (defArgs t_lean) (defBody t_lean) (defScope t_lean) .none kV_lean dc_lean pm_lean an_lean cd_lean ct_lean), sl_lean⟩)
    (c_lean : PySem.W.codeIn K cd_lean "lean" = true) (k_lean : PySem.W.keepIn K (.ref f_lean) = true)
    {f_lean_parts : Addr} {od_lean_parts an_lean_parts : Option Addr} {sl_lean_parts : Array (Option Value)} {oc_lean_parts kV_lean_parts dc_lean_parts pm_lean_parts cd_lean_parts ct_lean_parts : Value}
    (a_lean_parts : PySem.W.nsIn K mainGlobals "lean_parts" = some (some (.ref f_lean_parts)))
    (l_lean_parts : K.lookup f_lean_parts = some ⟨oc_lean_parts, od_lean_parts, .func (PySem.W.fnOf "lean_parts" "lean_parts" (defArgs t_lean_parts) (defBody t_lean_parts) (defScope t_lean_parts) .none kV_lean_parts dc_lean_parts pm_lean_parts an_lean_parts cd_lean_parts ct_lean_parts), sl_lean_parts⟩)
    (c_lean_parts : PySem.W.codeIn K cd_lean_parts "lean_parts" = true) (k_lean_parts : PySem.W.keepIn K (.ref f_lean_parts) = true)
    {f_places : Addr} {od_places an_places : Option Addr} {sl_places : Array (Option Value)} {oc_places kV_places dc_places pm_places cd_places ct_places : Value}
    (a_places : PySem.W.nsIn K mainGlobals "places" = some (some (.ref f_places)))
    (l_places : K.lookup f_places = some ⟨oc_places, od_places, .func (PySem.W.fnOf "places" "places" (defArgs t_places) (defBody t_places) (defScope t_places) .none kV_places dc_places pm_places an_places cd_places ct_places), sl_places⟩)
    (c_places : PySem.W.codeIn K cd_places "places" = true) (k_places : PySem.W.keepIn K (.ref f_places) = true)
    {f_multiplied : Addr} {od_multiplied an_multiplied : Option Addr} {sl_multiplied : Array (Option Value)} {oc_multiplied kV_multiplied dc_multiplied pm_multiplied cd_multiplied ct_multiplied : Value}
    (a_multiplied : PySem.W.nsIn K mainGlobals "multiplied" = some (some (.ref f_multiplied)))
    (l_multiplied : K.lookup f_multiplied = some ⟨oc_multiplied, od_multiplied, .func (PySem.W.fnOf "multiplied" "multiplied" (defArgs t_multiplied) (defBody t_multiplied) (defScope t_multiplied) .none kV_multiplied dc_multiplied pm_multiplied an_multiplied cd_multiplied ct_multiplied), sl_multiplied⟩)
    (c_multiplied : PySem.W.codeIn K cd_multiplied "multiplied" = true) (k_multiplied : PySem.W.keepIn K (.ref f_multiplied) = true)
    {f_together : Addr} {od_together an_together : Option Addr} {sl_together : Array (Option Value)} {oc_together kV_together dc_together pm_together cd_together ct_together : Value}
    (a_together : PySem.W.nsIn K mainGlobals "together" = some (some (.ref f_together)))
    (l_together : K.lookup f_together = some ⟨oc_together, od_together, .func (PySem.W.fnOf "together" "together" (defArgs t_together) (defBody t_together) (defScope t_together) .none kV_together dc_together pm_together an_together cd_together ct_together), sl_together⟩)
    (c_together : PySem.W.codeIn K cd_together "together" = true) (k_together : PySem.W.keepIn K (.ref f_together) = true)
    {f_Lcell_at : Addr} {od_Lcell_at an_Lcell_at : Option Addr} {sl_Lcell_at : Array (Option Value)} {oc_Lcell_at kV_Lcell_at dc_Lcell_at pm_Lcell_at cd_Lcell_at ct_Lcell_at : Value}
    (a_Lcell_at : PySem.W.nsIn K mainGlobals "_law_cell_at" = some (some (.ref f_Lcell_at)))
    (l_Lcell_at : K.lookup f_Lcell_at = some ⟨oc_Lcell_at, od_Lcell_at, .func (PySem.W.fnOf "_law_cell_at" "_law_cell_at" (defArgs t_Lcell_at) (defBody t_Lcell_at) (defScope t_Lcell_at) .none kV_Lcell_at dc_Lcell_at pm_Lcell_at an_Lcell_at cd_Lcell_at ct_Lcell_at), sl_Lcell_at⟩)
    (c_Lcell_at : PySem.W.codeIn K cd_Lcell_at "_law_cell_at" = true) (k_Lcell_at : PySem.W.keepIn K (.ref f_Lcell_at) = true)
    {f_Lmixed : Addr} {od_Lmixed an_Lmixed : Option Addr} {sl_Lmixed : Array (Option Value)} {oc_Lmixed kV_Lmixed dc_Lmixed pm_Lmixed cd_Lmixed ct_Lmixed : Value}
    (a_Lmixed : PySem.W.nsIn K mainGlobals "_law_mixed" = some (some (.ref f_Lmixed)))
    (l_Lmixed : K.lookup f_Lmixed = some ⟨oc_Lmixed, od_Lmixed, .func (PySem.W.fnOf "_law_mixed" "_law_mixed" (defArgs t_Lmixed) (defBody t_Lmixed) (defScope t_Lmixed) .none kV_Lmixed dc_Lmixed pm_Lmixed an_Lmixed cd_Lmixed ct_Lmixed), sl_Lmixed⟩)
    (c_Lmixed : PySem.W.codeIn K cd_Lmixed "_law_mixed" = true) (k_Lmixed : PySem.W.keepIn K (.ref f_Lmixed) = true)
    {f_Lwhole : Addr} {od_Lwhole an_Lwhole : Option Addr} {sl_Lwhole : Array (Option Value)} {oc_Lwhole kV_Lwhole dc_Lwhole pm_Lwhole cd_Lwhole ct_Lwhole : Value}
    (a_Lwhole : PySem.W.nsIn K mainGlobals "_law_whole" = some (some (.ref f_Lwhole)))
    (l_Lwhole : K.lookup f_Lwhole = some ⟨oc_Lwhole, od_Lwhole, .func (PySem.W.fnOf "_law_whole" "_law_whole" (defArgs t_Lwhole) (defBody t_Lwhole) (defScope t_Lwhole) .none kV_Lwhole dc_Lwhole pm_Lwhole an_Lwhole cd_Lwhole ct_Lwhole), sl_Lwhole⟩)
    (c_Lwhole : PySem.W.codeIn K cd_Lwhole "_law_whole" = true) (k_Lwhole : PySem.W.keepIn K (.ref f_Lwhole) = true)
    {f_Lnumber : Addr} {od_Lnumber an_Lnumber : Option Addr} {sl_Lnumber : Array (Option Value)} {oc_Lnumber kV_Lnumber dc_Lnumber pm_Lnumber cd_Lnumber ct_Lnumber : Value}
    (a_Lnumber : PySem.W.nsIn K mainGlobals "_law_number" = some (some (.ref f_Lnumber)))
    (l_Lnumber : K.lookup f_Lnumber = some ⟨oc_Lnumber, od_Lnumber, .func (PySem.W.fnOf "_law_number" "_law_number" (defArgs t_Lnumber) (defBody t_Lnumber) (defScope t_Lnumber) .none kV_Lnumber dc_Lnumber pm_Lnumber an_Lnumber cd_Lnumber ct_Lnumber), sl_Lnumber⟩)
    (c_Lnumber : PySem.W.codeIn K cd_Lnumber "_law_number" = true) (k_Lnumber : PySem.W.keepIn K (.ref f_Lnumber) = true)
    {f_Lworth : Addr} {od_Lworth an_Lworth : Option Addr} {sl_Lworth : Array (Option Value)} {oc_Lworth kV_Lworth dc_Lworth pm_Lworth cd_Lworth ct_Lworth : Value}
    (a_Lworth : PySem.W.nsIn K mainGlobals "_law_worth" = some (some (.ref f_Lworth)))
    (l_Lworth : K.lookup f_Lworth = some ⟨oc_Lworth, od_Lworth, .func (PySem.W.fnOf "_law_worth" "_law_worth" (defArgs t_Lworth) (defBody t_Lworth) (defScope t_Lworth) .none kV_Lworth dc_Lworth pm_Lworth an_Lworth cd_Lworth ct_Lworth), sl_Lworth⟩)
    (c_Lworth : PySem.W.codeIn K cd_Lworth "_law_worth" = true) (k_Lworth : PySem.W.keepIn K (.ref f_Lworth) = true)
    {f_Lis_lean : Addr} {od_Lis_lean an_Lis_lean : Option Addr} {sl_Lis_lean : Array (Option Value)} {oc_Lis_lean kV_Lis_lean dc_Lis_lean pm_Lis_lean cd_Lis_lean ct_Lis_lean : Value}
    (a_Lis_lean : PySem.W.nsIn K mainGlobals "_law_is_lean" = some (some (.ref f_Lis_lean)))
    (l_Lis_lean : K.lookup f_Lis_lean = some ⟨oc_Lis_lean, od_Lis_lean, .func (PySem.W.fnOf "_law_is_lean" "_law_is_lean" (defArgs t_Lis_lean) (defBody t_Lis_lean) (defScope t_Lis_lean) .none kV_Lis_lean dc_Lis_lean pm_Lis_lean an_Lis_lean cd_Lis_lean ct_Lis_lean), sl_Lis_lean⟩)
    (c_Lis_lean : PySem.W.codeIn K cd_Lis_lean "_law_is_lean" = true) (k_Lis_lean : PySem.W.keepIn K (.ref f_Lis_lean) = true)
    {f_Lis_row_for : Addr} {od_Lis_row_for an_Lis_row_for : Option Addr} {sl_Lis_row_for : Array (Option Value)} {oc_Lis_row_for kV_Lis_row_for dc_Lis_row_for pm_Lis_row_for cd_Lis_row_for ct_Lis_row_for : Value}
    (a_Lis_row_for : PySem.W.nsIn K mainGlobals "_law_is_row_for" = some (some (.ref f_Lis_row_for)))
    (l_Lis_row_for : K.lookup f_Lis_row_for = some ⟨oc_Lis_row_for, od_Lis_row_for, .func (PySem.W.fnOf "_law_is_row_for" "_law_is_row_for" (defArgs t_Lis_row_for) (defBody t_Lis_row_for) (defScope t_Lis_row_for) .none kV_Lis_row_for dc_Lis_row_for pm_Lis_row_for an_Lis_row_for cd_Lis_row_for ct_Lis_row_for), sl_Lis_row_for⟩)
    (c_Lis_row_for : PySem.W.codeIn K cd_Lis_row_for "_law_is_row_for" = true) (k_Lis_row_for : PySem.W.keepIn K (.ref f_Lis_row_for) = true)
    {f_Lsmall : Addr} {od_Lsmall an_Lsmall : Option Addr} {sl_Lsmall : Array (Option Value)} {oc_Lsmall kV_Lsmall dc_Lsmall pm_Lsmall cd_Lsmall ct_Lsmall : Value}
    (a_Lsmall : PySem.W.nsIn K mainGlobals "_law_small" = some (some (.ref f_Lsmall)))
    (l_Lsmall : K.lookup f_Lsmall = some ⟨oc_Lsmall, od_Lsmall, .func (PySem.W.fnOf "_law_small" "_law_small" (defArgs t_Lsmall) (defBody t_Lsmall) (defScope t_Lsmall) .none kV_Lsmall dc_Lsmall pm_Lsmall an_Lsmall cd_Lsmall ct_Lsmall), sl_Lsmall⟩)
    (c_Lsmall : PySem.W.codeIn K cd_Lsmall "_law_small" = true) (k_Lsmall : PySem.W.keepIn K (.ref f_Lsmall) = true)
    {f_Lrow : Addr} {od_Lrow an_Lrow : Option Addr} {sl_Lrow : Array (Option Value)} {oc_Lrow kV_Lrow dc_Lrow pm_Lrow cd_Lrow ct_Lrow : Value}
    (a_Lrow : PySem.W.nsIn K mainGlobals "_law_row" = some (some (.ref f_Lrow)))
    (l_Lrow : K.lookup f_Lrow = some ⟨oc_Lrow, od_Lrow, .func (PySem.W.fnOf "_law_row" "_law_row" (defArgs t_Lrow) (defBody t_Lrow) (defScope t_Lrow) .none kV_Lrow dc_Lrow pm_Lrow an_Lrow cd_Lrow ct_Lrow), sl_Lrow⟩)
    (c_Lrow : PySem.W.codeIn K cd_Lrow "_law_row" = true) (k_Lrow : PySem.W.keepIn K (.ref f_Lrow) = true)
    {f_law : Addr} {od_law an_law : Option Addr} {sl_law : Array (Option Value)} {oc_law kV_law dc_law pm_law cd_law ct_law : Value}
    (a_law : PySem.W.nsIn K mainGlobals "law" = some (some (.ref f_law)))
    (l_law : K.lookup f_law = some ⟨oc_law, od_law, .func (PySem.W.fnOf "law" "law" (defArgs t_law) (defBody t_law) (defScope t_law) .none kV_law dc_law pm_law an_law cd_law ct_law), sl_law⟩)
    (c_law : PySem.W.codeIn K cd_law "law" = true) (k_law : PySem.W.keepIn K (.ref f_law) = true)
    (z_isinstance : PySem.W.nsIn K mainGlobals "isinstance" = some none)
    (z_int : PySem.W.nsIn K mainGlobals "int" = some none)
    (z_bool : PySem.W.nsIn K mainGlobals "bool" = some none)
    (z_list : PySem.W.nsIn K mainGlobals "list" = some none)
    (z_all : PySem.W.nsIn K mainGlobals "all" = some none)
    (z_len : PySem.W.nsIn K mainGlobals "len" = some none)
    (z_reversed : PySem.W.nsIn K mainGlobals "reversed" = some none)
    (z_max : PySem.W.nsIn K mainGlobals "max" = some none)
    (z_zip : PySem.W.nsIn K mainGlobals "zip" = some none)
    (z_sum : PySem.W.nsIn K mainGlobals "sum" = some none)
    (z_range : PySem.W.nsIn K mainGlobals "range" = some none)
    (z_abs : PySem.W.nsIn K mainGlobals "abs" = some none)
    {C_LeanError : Addr} (x_LeanError : PySem.W.nsIn K mainGlobals "LeanError" = some (some (.ref C_LeanError)))
    {C_NoNumber : Addr} (x_NoNumber : PySem.W.nsIn K mainGlobals "NoNumber" = some (some (.ref C_NoNumber)))
    {C_NoRow : Addr} (x_NoRow : PySem.W.nsIn K mainGlobals "NoRow" = some (some (.ref C_NoRow)))
    (dg : PySem.W.nsIn K cStatics "sys.int_max_str_digits" = some none) :
    ∃ fd : FuncData, (∀ (s : Shared) (v : Value), BindsTo s fd ⟨[v], []⟩ [("_law_script", v)]) ∧ ∀ base : Heap, K.In base → base.Ns mainGlobals mg → FnOk l.prog w K mg base CX0 7 fa fd p_law (sp_law K) := by
  have e := hfa.symm.trans (PySem.W.mg_of X G a_law)
  cases e
  have F_is_whole := fun_mk (st := t_is_whole) l_is_whole c_is_whole k_is_whole
  have b_is_whole := F_is_whole.binds (ps := p_is_whole) fun _ _ _ _ _ _ us hl => match us, hl with | [_], _ => rfl
  have F_is_figure := fun_mk (st := t_is_figure) l_is_figure c_is_figure k_is_figure
  have b_is_figure := F_is_figure.binds (ps := p_is_figure) fun _ _ _ _ _ _ us hl => match us, hl with | [_], _ => rfl
  have F_is_row := fun_mk (st := t_is_row) l_is_row c_is_row k_is_row
  have b_is_row := F_is_row.binds (ps := p_is_row) fun _ _ _ _ _ _ us hl => match us, hl with | [_], _ => rfl
  have F_refuse_no_row := fun_mk (st := t_refuse_no_row) l_refuse_no_row c_refuse_no_row k_refuse_no_row
  have b_refuse_no_row := F_refuse_no_row.binds (ps := p_refuse_no_row) fun _ _ _ _ _ _ us hl => match us, hl with | [_], _ => rfl
  have F_refuse_no_number := fun_mk (st := t_refuse_no_number) l_refuse_no_number c_refuse_no_number k_refuse_no_number
  have b_refuse_no_number := F_refuse_no_number.binds (ps := p_refuse_no_number) fun _ _ _ _ _ _ us hl => match us, hl with | [_], _ => rfl
  have F_worth := fun_mk (st := t_worth) l_worth c_worth k_worth
  have b_worth := F_worth.binds (ps := p_worth) fun _ _ _ _ _ _ us hl => match us, hl with | [_], _ => rfl
  have F_marked := fun_mk (st := t_marked) l_marked c_marked k_marked
  have b_marked := F_marked.binds (ps := p_marked) fun _ _ _ _ _ _ us hl => match us, hl with | [_, _], _ => rfl
  have F_lean := fun_mk (st := t_lean) l_lean c_lean k_lean
  have b_lean := F_lean.binds (ps := p_lean) fun _ _ _ _ _ _ us hl => match us, hl with | [_], _ => rfl
  have F_lean_parts := fun_mk (st := t_lean_parts) l_lean_parts c_lean_parts k_lean_parts
  have b_lean_parts := F_lean_parts.binds (ps := p_lean_parts) fun _ _ _ _ _ _ us hl => match us, hl with | [_], _ => rfl
  have F_places := fun_mk (st := t_places) l_places c_places k_places
  have b_places := F_places.binds (ps := p_places) fun _ _ _ _ _ _ us hl => match us, hl with | [_, _], _ => rfl
  have F_multiplied := fun_mk (st := t_multiplied) l_multiplied c_multiplied k_multiplied
  have b_multiplied := F_multiplied.binds (ps := p_multiplied) fun _ _ _ _ _ _ us hl => match us, hl with | [_, _], _ => rfl
  have F_together := fun_mk (st := t_together) l_together c_together k_together
  have b_together := F_together.binds (ps := p_together) fun _ _ _ _ _ _ us hl => match us, hl with | [_], _ => rfl
  have F_Lcell_at := fun_mk (st := t_Lcell_at) l_Lcell_at c_Lcell_at k_Lcell_at
  have b_Lcell_at := F_Lcell_at.binds (ps := p_Lcell_at) fun _ _ _ _ _ _ us hl => match us, hl with | [_, _], _ => rfl
  have F_Lmixed := fun_mk (st := t_Lmixed) l_Lmixed c_Lmixed k_Lmixed
  have b_Lmixed := F_Lmixed.binds (ps := p_Lmixed) fun _ _ _ _ _ _ us hl => match us, hl with | [_, _], _ => rfl
  have F_Lwhole := fun_mk (st := t_Lwhole) l_Lwhole c_Lwhole k_Lwhole
  have b_Lwhole := F_Lwhole.binds (ps := p_Lwhole) fun _ _ _ _ _ _ us hl => match us, hl with | [_], _ => rfl
  have F_Lnumber := fun_mk (st := t_Lnumber) l_Lnumber c_Lnumber k_Lnumber
  have b_Lnumber := F_Lnumber.binds (ps := p_Lnumber) fun _ _ _ _ _ _ us hl => match us, hl with | [_], _ => rfl
  have F_Lworth := fun_mk (st := t_Lworth) l_Lworth c_Lworth k_Lworth
  have b_Lworth := F_Lworth.binds (ps := p_Lworth) fun _ _ _ _ _ _ us hl => match us, hl with | [_], _ => rfl
  have F_Lis_lean := fun_mk (st := t_Lis_lean) l_Lis_lean c_Lis_lean k_Lis_lean
  have b_Lis_lean := F_Lis_lean.binds (ps := p_Lis_lean) fun _ _ _ _ _ _ us hl => match us, hl with | [_], _ => rfl
  have F_Lis_row_for := fun_mk (st := t_Lis_row_for) l_Lis_row_for c_Lis_row_for k_Lis_row_for
  have b_Lis_row_for := F_Lis_row_for.binds (ps := p_Lis_row_for) fun _ _ _ _ _ _ us hl => match us, hl with | [_, _], _ => rfl
  have F_Lsmall := fun_mk (st := t_Lsmall) l_Lsmall c_Lsmall k_Lsmall
  have b_Lsmall := F_Lsmall.binds (ps := p_Lsmall) fun _ _ _ _ _ _ us hl => match us, hl with | [_], _ => rfl
  have F_Lrow := fun_mk (st := t_Lrow) l_Lrow c_Lrow k_Lrow
  have b_Lrow := F_Lrow.binds (ps := p_Lrow) fun _ _ _ _ _ _ us hl => match us, hl with | [_, _], _ => rfl
  have F_law := fun_mk (st := t_law) l_law c_law k_law
  have b_law := F_law.binds (ps := p_law) fun _ _ _ _ _ _ us hl => match us, hl with | [_], _ => rfl
  have T : Txt K mg := {
    a_is_whole := _, d_is_whole := _, F_is_whole := F_is_whole, b_is_whole := b_is_whole, g_is_whole := PySem.W.mg_of X G a_is_whole,
    a_is_figure := _, d_is_figure := _, F_is_figure := F_is_figure, b_is_figure := b_is_figure, g_is_figure := PySem.W.mg_of X G a_is_figure,
    a_is_row := _, d_is_row := _, F_is_row := F_is_row, b_is_row := b_is_row, g_is_row := PySem.W.mg_of X G a_is_row,
    a_refuse_no_row := _, d_refuse_no_row := _, F_refuse_no_row := F_refuse_no_row, b_refuse_no_row := b_refuse_no_row, g_refuse_no_row := PySem.W.mg_of X G a_refuse_no_row,
    a_refuse_no_number := _, d_refuse_no_number := _, F_refuse_no_number := F_refuse_no_number, b_refuse_no_number := b_refuse_no_number, g_refuse_no_number := PySem.W.mg_of X G a_refuse_no_number,
    a_worth := _, d_worth := _, F_worth := F_worth, b_worth := b_worth, g_worth := PySem.W.mg_of X G a_worth,
    a_marked := _, d_marked := _, F_marked := F_marked, b_marked := b_marked, g_marked := PySem.W.mg_of X G a_marked,
    a_lean := _, d_lean := _, F_lean := F_lean, b_lean := b_lean, g_lean := PySem.W.mg_of X G a_lean,
    a_lean_parts := _, d_lean_parts := _, F_lean_parts := F_lean_parts, b_lean_parts := b_lean_parts, g_lean_parts := PySem.W.mg_of X G a_lean_parts,
    a_places := _, d_places := _, F_places := F_places, b_places := b_places, g_places := PySem.W.mg_of X G a_places,
    a_multiplied := _, d_multiplied := _, F_multiplied := F_multiplied, b_multiplied := b_multiplied, g_multiplied := PySem.W.mg_of X G a_multiplied,
    a_together := _, d_together := _, F_together := F_together, b_together := b_together, g_together := PySem.W.mg_of X G a_together,
    a_Lcell_at := _, d_Lcell_at := _, F_Lcell_at := F_Lcell_at, b_Lcell_at := b_Lcell_at, g_Lcell_at := PySem.W.mg_of X G a_Lcell_at,
    a_Lmixed := _, d_Lmixed := _, F_Lmixed := F_Lmixed, b_Lmixed := b_Lmixed, g_Lmixed := PySem.W.mg_of X G a_Lmixed,
    a_Lwhole := _, d_Lwhole := _, F_Lwhole := F_Lwhole, b_Lwhole := b_Lwhole, g_Lwhole := PySem.W.mg_of X G a_Lwhole,
    a_Lnumber := _, d_Lnumber := _, F_Lnumber := F_Lnumber, b_Lnumber := b_Lnumber, g_Lnumber := PySem.W.mg_of X G a_Lnumber,
    a_Lworth := _, d_Lworth := _, F_Lworth := F_Lworth, b_Lworth := b_Lworth, g_Lworth := PySem.W.mg_of X G a_Lworth,
    a_Lis_lean := _, d_Lis_lean := _, F_Lis_lean := F_Lis_lean, b_Lis_lean := b_Lis_lean, g_Lis_lean := PySem.W.mg_of X G a_Lis_lean,
    a_Lis_row_for := _, d_Lis_row_for := _, F_Lis_row_for := F_Lis_row_for, b_Lis_row_for := b_Lis_row_for, g_Lis_row_for := PySem.W.mg_of X G a_Lis_row_for,
    a_Lsmall := _, d_Lsmall := _, F_Lsmall := F_Lsmall, b_Lsmall := b_Lsmall, g_Lsmall := PySem.W.mg_of X G a_Lsmall,
    a_Lrow := _, d_Lrow := _, F_Lrow := F_Lrow, b_Lrow := b_Lrow, g_Lrow := PySem.W.mg_of X G a_Lrow,
    a_law := _, d_law := _, F_law := F_law, b_law := b_law, g_law := PySem.W.mg_of X G a_law,
    z_isinstance := PySem.W.mg_none_of X G z_isinstance,
    z_int := PySem.W.mg_none_of X G z_int,
    z_bool := PySem.W.mg_none_of X G z_bool,
    z_list := PySem.W.mg_none_of X G z_list,
    z_all := PySem.W.mg_none_of X G z_all,
    z_len := PySem.W.mg_none_of X G z_len,
    z_reversed := PySem.W.mg_none_of X G z_reversed,
    z_max := PySem.W.mg_none_of X G z_max,
    z_zip := PySem.W.mg_none_of X G z_zip,
    z_sum := PySem.W.mg_none_of X G z_sum,
    z_range := PySem.W.mg_none_of X G z_range,
    z_abs := PySem.W.mg_none_of X G z_abs,
    c_LeanError := _, gc_LeanError := PySem.W.mg_of X G x_LeanError,
    c_NoNumber := _, gc_NoNumber := PySem.W.mg_of X G x_NoNumber,
    c_NoRow := _, gc_NoRow := PySem.W.mg_of X G x_NoRow,
    digits := dg }
  exact ⟨_, fun s v => .of_eq rfl, fun base _ _ => ok_law_at T F_law b_law⟩
end K06
open PySem PySem.W PyProof.Rows
set_option maxHeartbeats 0 in
theorem PySem.Challenge.cw_leanfigures_k06_whole_products_holds : PySem.Challenge.rw_leanfigures_k06_whole_products.Holds := by
  w_on; o_law; k_head; (case hw => w_witness2)
  k_fill
  refine L2.walk_of (l := PySem.Challenge.rw_leanfigures_k06_whole_products) (n := 63) (k := 7) (x := "_law_script") (CX := fun _ => L2.CX0) (sp := fun w => K06.sp_law _) rfl (by decide) rfl ⟨rfl, by decide, by decide⟩ (fun w h Y => PySem.W.kIn_of Y) ?F (fun _ _ a ns hl _ hS => ⟨a, ns, rfl, hS, hl, fun _ => rfl⟩) (fun _ _ _ _ _ h => h)
  case F =>
    intro w mg fa h KX G hmg
    refine' K06.all_mk KX G hmg ?a_is_whole ?l_is_whole ?c_is_whole ?k_is_whole ?a_is_figure ?l_is_figure ?c_is_figure ?k_is_figure ?a_is_row ?l_is_row ?c_is_row ?k_is_row ?a_refuse_no_row ?l_refuse_no_row ?c_refuse_no_row ?k_refuse_no_row ?a_refuse_no_number ?l_refuse_no_number ?c_refuse_no_number ?k_refuse_no_number ?a_worth ?l_worth ?c_worth ?k_worth ?a_marked ?l_marked ?c_marked ?k_marked ?a_lean ?l_lean ?c_lean ?k_lean ?a_lean_parts ?l_lean_parts ?c_lean_parts ?k_lean_parts ?a_places ?l_places ?c_places ?k_places ?a_multiplied ?l_multiplied ?c_multiplied ?k_multiplied ?a_together ?l_together ?c_together ?k_together ?a_Lcell_at ?l_Lcell_at ?c_Lcell_at ?k_Lcell_at ?a_Lmixed ?l_Lmixed ?c_Lmixed ?k_Lmixed ?a_Lwhole ?l_Lwhole ?c_Lwhole ?k_Lwhole ?a_Lnumber ?l_Lnumber ?c_Lnumber ?k_Lnumber ?a_Lworth ?l_Lworth ?c_Lworth ?k_Lworth ?a_Lis_lean ?l_Lis_lean ?c_Lis_lean ?k_Lis_lean ?a_Lis_row_for ?l_Lis_row_for ?c_Lis_row_for ?k_Lis_row_for ?a_Lsmall ?l_Lsmall ?c_Lsmall ?k_Lsmall ?a_Lrow ?l_Lrow ?c_Lrow ?k_Lrow ?a_law ?l_law ?c_law ?k_law ?z_isinstance ?z_int ?z_bool ?z_list ?z_all ?z_len ?z_reversed ?z_max ?z_zip ?z_sum ?z_range ?z_abs ?x_LeanError ?x_NoNumber ?x_NoRow ?dg
    (case a_is_whole => k_is)
    (case l_is_whole => k_is)
    (case c_is_whole => k_is)
    (case k_is_whole => k_is)
    (case a_is_figure => k_is)
    (case l_is_figure => k_is)
    (case c_is_figure => k_is)
    (case k_is_figure => k_is)
    (case a_is_row => k_is)
    (case l_is_row => k_is)
    (case c_is_row => k_is)
    (case k_is_row => k_is)
    (case a_refuse_no_row => k_is)
    (case l_refuse_no_row => k_is)
    (case c_refuse_no_row => k_is)
    (case k_refuse_no_row => k_is)
    (case a_refuse_no_number => k_is)
    (case l_refuse_no_number => k_is)
    (case c_refuse_no_number => k_is)
    (case k_refuse_no_number => k_is)
    (case a_worth => k_is)
    (case l_worth => k_is)
    (case c_worth => k_is)
    (case k_worth => k_is)
    (case a_marked => k_is)
    (case l_marked => k_is)
    (case c_marked => k_is)
    (case k_marked => k_is)
    (case a_lean => k_is)
    (case l_lean => k_is)
    (case c_lean => k_is)
    (case k_lean => k_is)
    (case a_lean_parts => k_is)
    (case l_lean_parts => k_is)
    (case c_lean_parts => k_is)
    (case k_lean_parts => k_is)
    (case a_places => k_is)
    (case l_places => k_is)
    (case c_places => k_is)
    (case k_places => k_is)
    (case a_multiplied => k_is)
    (case l_multiplied => k_is)
    (case c_multiplied => k_is)
    (case k_multiplied => k_is)
    (case a_together => k_is)
    (case l_together => k_is)
    (case c_together => k_is)
    (case k_together => k_is)
    (case a_Lcell_at => k_is)
    (case l_Lcell_at => k_is)
    (case c_Lcell_at => k_is)
    (case k_Lcell_at => k_is)
    (case a_Lmixed => k_is)
    (case l_Lmixed => k_is)
    (case c_Lmixed => k_is)
    (case k_Lmixed => k_is)
    (case a_Lwhole => k_is)
    (case l_Lwhole => k_is)
    (case c_Lwhole => k_is)
    (case k_Lwhole => k_is)
    (case a_Lnumber => k_is)
    (case l_Lnumber => k_is)
    (case c_Lnumber => k_is)
    (case k_Lnumber => k_is)
    (case a_Lworth => k_is)
    (case l_Lworth => k_is)
    (case c_Lworth => k_is)
    (case k_Lworth => k_is)
    (case a_Lis_lean => k_is)
    (case l_Lis_lean => k_is)
    (case c_Lis_lean => k_is)
    (case k_Lis_lean => k_is)
    (case a_Lis_row_for => k_is)
    (case l_Lis_row_for => k_is)
    (case c_Lis_row_for => k_is)
    (case k_Lis_row_for => k_is)
    (case a_Lsmall => k_is)
    (case l_Lsmall => k_is)
    (case c_Lsmall => k_is)
    (case k_Lsmall => k_is)
    (case a_Lrow => k_is)
    (case l_Lrow => k_is)
    (case c_Lrow => k_is)
    (case k_Lrow => k_is)
    (case a_law => k_is)
    (case l_law => k_is)
    (case c_law => k_is)
    (case k_law => k_is)
    (case z_isinstance => k_is)
    (case z_int => k_is)
    (case z_bool => k_is)
    (case z_list => k_is)
    (case z_all => k_is)
    (case z_len => k_is)
    (case z_reversed => k_is)
    (case z_max => k_is)
    (case z_zip => k_is)
    (case z_sum => k_is)
    (case z_range => k_is)
    (case z_abs => k_is)
    (case x_LeanError => k_is)
    (case x_NoNumber => k_is)
    (case x_NoRow => k_is)
    (case dg => k_is)
