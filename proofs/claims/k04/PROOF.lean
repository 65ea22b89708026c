import PyProof.Rows.All
import Wide.All
import OpenK.AllK
import Wide.FinOn
import PyProof.ListStr
import PyProof.SliceStr2
import KE.KRevSl
import HandS.ForMost
import HandS.Style
import HandS.Wide
import PyProof.ReprRoads
import HandS.Exc
import HandS.ExcOwn
import HandS.WordsExc
import HandS.ExcInit
import HandS.ExcField
import HandS.ExcIs
import HandS.IsInst
import HandS.Defaults
import HandS.Walk
import KE.KExcIs
import KE.RegKCallOwn
import PyProof.InstNe
import HandS.OwnEq
import HandS.FStr
import HandS.CallRecv
import HandS.ClsMeth
import HandS.IterVal
import HandS.StrMore
import HandS.Text
import HandS.TryOnly
import PyProof.StrOps2
import PySem.Challenge.RW_growntexts_k04_texts_of_settings
import PyProof.StrLawsRepr
set_option Elab.async false
set_option linter.all false
set_option maxRecDepth 100000
namespace My
open PySem PySem.Spec PyProof.Rows L2
section
variable {X : Cx}
/-- the signs of a text, each a text -/
def sgn (z : Str) : List V := z.cps.toList.map fun c => V.str ⟨#[c]⟩
theorem sgn_len (z : Str) : (sgn z).length = z.length := by
  unfold sgn
  rw [List.length_map, Array.length_toList]
  rfl
/-- list(z), z a text -/
theorem cr_listStr (hc : X.calm = true) : CallR X (.type "list") (fun xs H Q => ∃ z : Str, xs = [.str z] ∧ z.length ≤ sizeLine ∧ ∀ l, H l = none → Q (.ref l) (upd H l (.lst (sgn z)))) := by
  intro pins s σ H xs us Q I r h
  obtain ⟨z, rfl, hz, q⟩ := h
  obtain ⟨u, rfl, t, rfl⟩ := vals1 r
  refine PySem.call_list_str (I.ok.hd hc) z t (hn := hz) fun h' tk acc c' kp hg hi => ?_
  have e1 : acc.size = z.cps.size := hi.1
  have hv : Vals (sgn z) acc.toList := by
    have gen : ∀ (cs : List Nat) (us : List Value), us.length = cs.length → (∀ (j : Nat) (v : Value), us[j]? = some v → ∃ c w, cs[j]? = some c ∧ v = Value.str ⟨#[c]⟩ w) → Vals (cs.map fun c => V.str ⟨#[c]⟩) us := by
      intro cs
      induction cs with
      | nil =>
        intro us hl _
        cases us with
        | nil => exact .nil
        | cons a b => cases hl
      | cons c cs ih =>
        intro us hl hx
        cases us with
        | nil => cases hl
        | cons a b =>
          refine .cons ?_ (ih b (Nat.succ.inj hl) fun j v e => hx (j + 1) v (by simpa using e))
          obtain ⟨c', w, e2, e3⟩ := hx 0 a rfl
          have e4 : c = c' := Option.some.inj e2
          subst e4
          exact ⟨w, e3⟩
    refine gen z.cps.toList acc.toList (by rw [Array.length_toList, Array.length_toList, e1]) fun j v e => ?_
    obtain ⟨c, w, h1, h2⟩ := hi.2 j v (by simpa using e)
    exact ⟨c, w, by simpa using h1, h2⟩
  refine ⟨.ref s.heap.objs.size, _, I.laid (t' := tk) kp (Nat.le_refl _) (show ObjOk X.prog X.w _ h' _ (.lst (sgn z)) from ⟨by rw [sgn_len]; exact hz, acc.toList, c', hv, by simpa using hg⟩), rfl, q _ (I.hok.fresh (Nat.le_refl _))⟩
/-- repr(z), z a text -/
theorem cr_reprStr : CallR X (.builtin "repr") (fun xs H Q => ∃ z : Str, xs = [.str z] ∧ (reprText z).length ≤ sizeLine ∧ Q (.str (reprText z)) H) := by
  intro pins s σ H xs us Q I r h
  obtain ⟨z, rfl, hz, q⟩ := h
  obtain ⟨u, rfl, t, rfl⟩ := vals1 r
  exact PySem.P.repr_of_str (hsz := hz) ⟨.str _, H, I.tok _, ⟨_, rfl⟩, q⟩
/-- a text turned about -/
def revS (z : Str) : Str := ⟨z.cps.toList.reverse.toArray⟩
theorem back_ix (n : Nat) : Builtin.Str.strSliceIndices none none (-1) n = (List.range n).reverse := by
  unfold Builtin.Str.strSliceIndices
  show sliceRange ((n : Int) - 1) (-1) (-1) = _
  rw [PySem.W.krv_sliceRange, PySem.W.krv_range]
theorem back_all (z : Str) : ((List.range z.length).reverse.filterMap (z.cps[·]?)).toArray = z.cps.toList.reverse.toArray := by
  rw [List.filterMap_reverse]
  show ((List.range z.cps.size).filterMap (z.cps[·]?)).reverse.toArray = _
  rw [PySem.W.krv_all]
def tRevS (te : TE) (ts : TE) : TE := fun σ H Q => te σ H fun x H1 => ts σ H1 fun y H2 => y = .int (-1) ∧ ∃ z : Str, x = .str z ∧ z.length ≤ sizeLine ∧ Q (.str (revS z)) H2
/-- z[::k], k reckoned, -1 -/
theorem pe_revS {e st : Expr} {te ts : TE} {p3 pos : Pos} (he : PE X e te) (hs : PE X st ts)
    (hsub : ∀ v i, ∃ ops, subscripted (.Slice none none (some st) p3) false v i = operate ops (getItem v i) := by intro v i; exact ⟨_, rfl⟩) :
    PE X (.Subscript e (.Slice none none (some st) p3) pos) (tRevS te ts) := by
  refine ⟨fun pins s σ H Q I h => ?_⟩
  refine Subscript_ (thn (he.run pins s σ H _ I h) fun v s1 ⟨x, H1, I1, r1, q1⟩ => ?_)
  have hst : PO X (some st) (tPart ts) := po_some hs
  refine wpAny_Slice (thn (po_none.run pins s1 σ H1 (fun o H2 => o = none ∧ H2 = H1) I1 ⟨rfl, rfl⟩) fun vl s2 ⟨l, H2, I2, pl, el, e2⟩ => ?_)
  subst el e2
  refine thn (po_none.run pins s2 σ H2 (fun o H3 => o = none ∧ H3 = H2) I2 ⟨rfl, rfl⟩) fun vu s3 ⟨u, H3, I3, pu, eu, e3⟩ => ?_
  subst eu e3
  have exn : ∀ (y : V) (H4 : Hp), (y = .int (-1) ∧ ∃ z : Str, x = .str z ∧ z.length ≤ sizeLine ∧ Q (.str (revS z)) H4) → ∃ i, y = .int i ∧ (i = -1 ∧ ∃ z : Str, x = .str z ∧ z.length ≤ sizeLine ∧ Q (.str (revS z)) H4) := fun y H4 q => ⟨-1, q.1, rfl, q.2⟩
  rw [evalPart_some]
  refine thn (hs.run pins s3 σ H3 _ I3 q1) fun vs s4 ⟨y, H4, I4, ry, ey, z, ez, hz, q⟩ => ?_
  subst ey ez
  obtain ⟨t, rfl⟩ := r1
  obtain ⟨ty, rfl⟩ := ry
  obtain ⟨l', rfl, hl'⟩ := IsPart.raw pl
  obtain ⟨u', rfl, hu'⟩ := IsPart.raw pu
  have el : l' = none := by cases l' <;> first | rfl | cases hl'
  have eu : u' = none := by cases u' <;> first | rfl | cases hu'
  subst el eu
  have I5 : Inv X pins σ H4 { s4 with heap := s4.heap.push { cls := .type "slice", data := .fields #[partValue none, partValue none, .int (-1) ty] } } := I4.kept (t' := s4.toks) fun b ob q => Heap.get?_push_of_some _ q
  show wpAny (model X.prog X.w) X.A (subscriptTail e (.Slice none none (some st) p3) (.str z t) (.ref s4.heap.objs.size)) (EP X pins σ Q) X.xe { s4 with heap := s4.heap.push { cls := .type "slice", data := .fields #[partValue none, partValue none, .int (-1) ty] } }
  obtain ⟨ops, hops⟩ := hsub (.str z t) (.ref s4.heap.objs.size)
  refine tail_any (ops := ops) (typeIs_str _ _ _) (F.slot_str_getitem.lookup) ?_ hops
  refine wpAny_getItem_str_slice (l := none) (u := none) (st := some (-1, ty)) (Heap.IsSliceOf.new _ _ _ _) rfl ?_
  unfold sliceMade slicePicked
  show Made.post (if ((-1 : Int) == 1 && (Builtin.Str.strSliceIndices none none (-1) z.length).length == z.length) = true then Made.val (.str z t) else Made.str ⟨((Builtin.Str.strSliceIndices none none (-1) z.length).filterMap (z.cps[·]?)).toArray⟩) (EP X pins σ Q) _
  rw [if_neg (by simp), back_ix, back_all]
  have hl : (revS z).length ≤ sizeLine := by
    show (z.cps.toList.reverse.toArray).size ≤ sizeLine
    rw [List.size_toArray, List.length_reverse]
    exact hz
  exact ⟨hl, .str (revS z), H4, I5.tok _, ⟨_, rfl⟩, q⟩
end
end My
namespace My
open PySem PySem.Spec PyProof.Rows L2
/-- a new object changes nothing that stands -/
theorem same_upd {H : Hp} {p : Addr} {o : HO} (h : H p = none) : Same H (upd H p o) := fun b x e => by
  rw [upd_ne (ne_of_none e h)]
  exact e
theorem Same.tup {K : PySem.W.Frag} {H H' : Hp} {a : Addr} {xs : List V} (e : Same H H') (h : SqT K H a xs) : SqT K H' a xs := by
  rcases h with (h | ⟨o, h⟩) | h
  · exact .inl (.inl (e _ _ h))
  · exact .inl (.inr ⟨o, e _ _ h⟩)
  · exact .inr h
/-- the box of the draws: two whole numbers -/
def B2 (H : Hp) (b : Addr) : Prop := ∃ g r : Int, H b = some (.lst [.int g, .int r])
/-- behind some draws: all but the box stands as it stood, the box holds two whole numbers -/
structure Dr (b : Addr) (H H' : Hp) : Prop where
  kp : ∀ a o, a ≠ b → H a = some o → H' a = some o
  bx : B2 H' b
theorem Dr.trans {b : Addr} {H H1 H2 : Hp} (x : Dr b H H1) (y : Dr b H1 H2) : Dr b H H2 := ⟨fun a o n e => y.kp a o n (x.kp a o n e), y.bx⟩
theorem Dr.refl {b : Addr} {H : Hp} (x : B2 H b) : Dr b H H := ⟨fun _ _ _ e => e, x⟩
theorem Dr.same {b : Addr} {H H1 : Hp} (x : B2 H b) (y : Same H H1) : Dr b H H1 := ⟨fun a o _ e => y a o e, let ⟨g, r, e⟩ := x; ⟨g, r, y _ _ e⟩⟩
theorem Dr.put {b : Addr} {H : Hp} (g r : Int) : Dr b H (upd H b (.lst [.int g, .int r])) := ⟨fun a o n e => by rw [upd_ne n]; exact e, g, r, upd_same⟩
theorem Dr.free {b p : Addr} {H H' : Hp} (x : Dr b H H') (h : H' p = none) : H p = none := by
  cases q : H p with
  | none => rfl
  | some o =>
    by_cases e : p = b
    · obtain ⟨g, r, z⟩ := x.bx
      rw [e, z] at h
      cases h
    · rw [x.kp p o e q] at h
      cases h
theorem Dr.sqL {K : PySem.W.Frag} {b a : Addr} {H H' : Hp} {xs : List V} (x : Dr b H H') (n : a ≠ b) (h : SqL K H a xs) : SqL K H' a xs := by
  rcases h with (h | ⟨o, h⟩) | h
  · exact .inl (.inl (x.kp _ _ n h))
  · exact .inl (.inr ⟨o, x.kp _ _ n h⟩)
  · exact .inr h
theorem Dr.sqT {K : PySem.W.Frag} {b a : Addr} {H H' : Hp} {xs : List V} (x : Dr b H H') (n : a ≠ b) (h : SqT K H a xs) : SqT K H' a xs := by
  rcases h with (h | ⟨o, h⟩) | h
  · exact .inl (.inl (x.kp _ _ n h))
  · exact .inl (.inr ⟨o, x.kp _ _ n h⟩)
  · exact .inr h
/-- a new address is not the box -/
theorem B2.ne {b p : Addr} {H : Hp} (x : B2 H b) (h : H p = none) : p ≠ b := fun e => by
  obtain ⟨g, r, z⟩ := x
  rw [e, z] at h
  cases h
theorem str_ext {a b : Str} (h : a.cps.toList = b.cps.toList) : a = b := by
  cases a with | mk x => cases b with | mk y =>
  exact congrArg Str.mk (Array.toList_inj.mp h)
/-- joined without a sign between -/
theorem join_nil : ∀ ys : List Str, (Txt.join ⟨#[]⟩ ys).cps.toList = (ys.map fun y => y.cps.toList).flatten := by
  have gen : ∀ ys : List Str, (Str.join ⟨#[]⟩ ys).cps.toList = (ys.map fun y => y.cps.toList).flatten := by
    intro ys
    induction ys with
    | nil => rfl
    | cons y r ih =>
      cases r with
      | nil => show y.cps.toList = ([y.cps.toList]).flatten; simp
      | cons z r =>
        show ((y.cps ++ #[]) ++ (Str.join ⟨#[]⟩ (z :: r)).cps).toList = _
        rw [Array.toList_append, ih]
        simp
  intro ys
  rw [show Txt.join ⟨#[]⟩ ys = Str.join ⟨#[]⟩ ys from PySem.StrLaws.glued_eq_join _ ys]
  exact gen ys
theorem len_cps (z : Str) : z.cps.toList.length = z.length := by
  rw [Array.length_toList]
  rfl
theorem app_cps (x y : Str) : (x ++ y).cps.toList = x.cps.toList ++ y.cps.toList := by
  show (x.cps ++ y.cps).toList = _
  rw [Array.toList_append]
theorem rev_cps (x : Str) : (revS x).cps.toList = x.cps.toList.reverse := by
  show x.cps.toList.reverse.toArray.toList = _
  simp
theorem app_len (x y : Str) : (x ++ y).length = x.length + y.length := by
  rw [← len_cps, app_cps, List.length_append, len_cps, len_cps]
theorem rev_len (x : Str) : (revS x).length = x.length := by
  rw [← len_cps, rev_cps, List.length_reverse, len_cps]
theorem at_some {xs : List V} {k : Int} (h0 : 0 ≤ k) (h1 : k < xs.length) : ∃ v, atI xs k = some v ∧ v ∈ xs := by
  have hk : k.toNat < xs.length := by omega
  refine ⟨xs[k.toNat], ?_, List.getElem_mem hk⟩
  have e : atI xs ((k.toNat : Nat) : Int) = some xs[k.toNat] := atI_nat (List.getElem?_eq_getElem hk)
  rw [show ((k.toNat : Nat) : Int) = k by omega] at e
  exact e
theorem at_ints {ns : List Int} {k : Int} (h0 : 0 ≤ k) (h1 : k < ns.length) : ∃ n : Int, atI (ns.map V.int) k = some (V.int n) := by
  obtain ⟨v, e, m⟩ := at_some (xs := ns.map V.int) h0 (by rw [List.length_map]; exact h1)
  obtain ⟨n, _, rfl⟩ := List.mem_map.mp m
  exact ⟨n, e⟩
theorem le_line {n : Nat} (h : Nat.ble n 1000 = true) : n ≤ sizeLine := by
  rw [sizeLine_eq]
  exact Nat.le_trans (Nat.le_of_ble_eq_true h) (by decide)
theorem le_lineN {n : Nat} (h : n ≤ 1000000) : n ≤ sizeLine := by
  rw [sizeLine_eq]
  exact Nat.le_trans h (by decide)
/-- texts of one sign each, of the signs of z -/
def OneOf (z : Str) (y : Str) : Prop := ∃ c, c ∈ z.cps.toList ∧ y = ⟨#[c]⟩
theorem sgn_mem {z : Str} {v : V} (h : v ∈ sgn z) : ∃ y : Str, v = .str y ∧ OneOf z y := by
  obtain ⟨c, hc, rfl⟩ := List.mem_map.mp h
  exact ⟨⟨#[c]⟩, rfl, c, hc, rfl⟩
theorem ones_len {z : Str} : ∀ {ys : List Str}, (∀ y ∈ ys, OneOf z y) → (ys.map (·.length)).sum = ys.length
  | [], _ => rfl
  | y :: r, h => by
    obtain ⟨c, _, e⟩ := h y (List.mem_cons_self ..)
    have ih := ones_len (ys := r) fun x hx => h x (List.mem_cons_of_mem _ hx)
    rw [List.map_cons, List.sum_cons, ih, e, List.length_cons]
    show 1 + r.length = r.length + 1
    omega
theorem ones_join {z : Str} {ys : List Str} (h : ∀ y ∈ ys, OneOf z y) : (Txt.join ⟨#[]⟩ ys).length = ys.length ∧ ∀ c ∈ (Txt.join ⟨#[]⟩ ys).cps.toList, c ∈ z.cps.toList := by
  constructor
  · rw [← len_cps, join_nil, List.length_flatten, List.map_map]
    rw [← ones_len h]
    refine congrArg List.sum (List.map_congr_left fun y _ => ?_)
    exact len_cps y
  · intro c hc
    rw [join_nil] at hc
    obtain ⟨l, hl, hcl⟩ := List.mem_flatten.mp hc
    obtain ⟨y, hy, rfl⟩ := List.mem_map.mp hl
    obtain ⟨d, hd, e⟩ := h y hy
    rw [e] at hcl
    have : c = d := by simpa using hcl
    rw [this]
    exact hd
end My
namespace My
open PySem PySem.Spec PyProof.Rows L2
/-! A def's promise at ONE place of call (so that what runs around it is known), and the law's end by it; repr of data -/
section
variable {P : Program} {w : World} {K : PySem.W.Frag} {mg : Str → Option Value} {base : Heap}
def FnAt (P : Program) (w : World) (K : PySem.W.Frag) (mg : Str → Option Value) (base : Heap) (A : Around) (f : Addr) (fd : FuncData) (ps : List Str) (sp : Sp) : Prop :=
  ∀ (outer : List Env) (s : Shared) (H : Hp) (args : Args) (us : List Value) (vs : List V) (Q : VK) (E : XK),
    Env0 P w K mg base A outer s H → BindsTo s fd args (ps.zip us) → Vals vs us → sp vs H Q E →
    codeAny (model P w) A (.call (.ref f) args) (CR CX0 outer P w H s Q E) s
/-- by its body, at this place -/
theorem Fun.at {x qual : Str} {st : Stmt} {f : Addr} {fd : FuncData} {N ps : List Str} {k : Nat} {sp : Sp} {A : Around}
    (F : Fun K x qual st f fd) (S : FnScope N ps (defScope st)) (hr : Room (k + 1) A)
    (len : ∀ vs H Q E, sp vs H Q E → vs.length = ps.length)
    (body : ∀ (cdv : Value) (outer : List Env) (s : Shared) (H : Hp) (vs : List V) (Q : VK) (E : XK),
      Room k (A.deeper (envOfC qual (defScope st) s.heap.objs.size f cdv)) → sp vs H Q E →
      ∃ t, PSs (cxOf CX0 P w K mg base N qual (defScope st) f cdv A outer s H E).nox (defBody st) t ∧
        t { nx := fun _ H' => Q .non H', rt := Q } (start N vs) H) : FnAt P w K mg base A f fd ps sp := by
  intro outer s H args us vs Q E e0 hb rv hsp
  obtain ⟨oc, od, kV, doc, pm, an, cdv, ct, osl, e1, lk, hcd⟩ := F.ex
  subst e1
  have hl := len _ _ _ _ hsp
  have old : ∀ b o, base.get? b = some o → s.heap.get? b = some o := fun b o e => (e0.bs b o e).1
  have KX : K.In s.heap := e0.mod.kin.keeps old
  have par : ∀ y ∈ ps.zip us, (defScope st).names.lookup y.1 = some .local ∨
      ((defScope st).names.lookup y.1 = some .cell ∧ ((cellsFrom (s.heap.objs.size + 1) (defScope st).names []).lookup y.1).isSome = true) := by
    intro y hy
    have hm : y.1 ∈ ps := (List.of_mem_zip (show (y.1, y.2) ∈ ps.zip us from hy)).1
    cases S.par _ hm with
    | inl q => exact Or.inl q
    | inr q => exact Or.inr ⟨q, PySem.W.cellsFrom_some _ _ _ (Or.inl q)⟩
  refine codeAny_call_function hr.depth (KX _ _ lk) rfl S.co S.gen rfl
    (PySem.W.codeRec_of KX hcd) (hb _ _ _ _ ?_)
  refine wpAny_newFunctionEnv_cells S.kind par fun env he s1 xi => ?_
  subst he
  refine ⟨(e0.mod.nolimit.keeps old).keeps xi.toInCall.keep, codeAny_func ?_⟩
  obtain ⟨t, ht, hq⟩ := body cdv outer s H vs Q E (hr.deeper _) hsp
  have I0 := inv_start (CX := CX0) (E := E) S hr.hd e0 hl rv xi
  refine wpAny_mono (ht.nox.run [] s1 (start N vs) H _ I0 hq) ?_ (fun e s' hs => hs)
  intro fl s' hs
  match fl, hs with
  | .ret u, ⟨v, σ', H', J, ru, q⟩ => exact ⟨v, H', J.os, J.bare, J.base, J.hok, ru, q⟩
  | .next, ⟨σ', H', J, q⟩ => exact ⟨V.non, H', J.os, J.bare, J.base, J.hok, rfl, q⟩
  | .brk, ⟨_, _, _, q⟩ => exact q.elim
  | .cont, ⟨_, _, _, q⟩ => exact q.elim
end
/-- the law's call, from its promise at the law's own place -/
theorem law_at {P : Program} {w : World} {K : PySem.W.Frag} {mg mb : Str → Option Value} {fa a : Addr} {fd : FuncData} {x : Str} {sp : Sp}
    {s1 : Shared} {vs : List Value} {ns : List Int} (KX : K.In s1.heap) (hns : s1.heap.Ns mainGlobals mg) (hb : s1.heap.Ns builtinsNs mb)
    (hbb : ∀ x : Str, x ≠ "__name__" → mb x = bootBuiltins x) (lim : s1.heap.NoLimit) (hg : s1.gens = #[])
    (ha : s1.heap.get? a = some { cls := .type "list", data := .seq vs.toArray }) (hi : IntsAre vs ns) (hl : ns.length ≤ sizeLine)
    (F : ∀ base : Heap, K.In base → base.Ns mainGlobals mg → FnAt P w K mg base callerA fa fd [x] sp)
    (bind : ∀ (s : Shared) (u : Value), BindsTo s fd ⟨[u], []⟩ [(x, u)])
    (hsp : ∀ H : Hp, Only H → SqL K H a (ns.map V.int) → sp [.ref a] H (fun v _ => v = .bl true) fun _ _ _ => False) :
    codeAny (model P w) callerA (.call (.ref fa) ⟨[.ref a], []⟩)
      (fun r s' => r = .ok (.ret (.bool true)) ∧ OldK s1.heap s'.heap ∧ s'.os = s1.os ∧ AllBare s'.gens) s1 := by
  have rv : Vals (ns.map V.int) vs := vals_ints hi
  -- an abstract heap that tracks at most the script, locked
  suffices key : ∃ H : Hp, Only H ∧ SqL K H a (ns.map V.int) ∧ HOk P w H s1.heap ∧ (∀ b u, H b = some u → b = a ∧ K.lookup a = none) by
    obtain ⟨H, only, sq, ok, at1⟩ := key
    have untracked : ∀ {b : Addr} {o : Obj}, s1.heap.get? b = some o → (b = a → o ≠ { cls := .type "list", data := .seq vs.toArray }) → H b = none := by
      intro b o e ne
      match q : H b with
      | none => rfl
      | some u =>
        have e2 := (at1 b u q).1
        subst e2
        exact absurd (Option.some.inj (e.symm.trans ha)) (ne rfl)
    have nsB : ∀ {b : Addr} {m : Str → Option Value}, s1.heap.Ns b m → (hidT s1.heap H).Ns b m := by
      intro b m h
      obtain ⟨o, es, ep, e, d, r⟩ := h
      refine ⟨o, es, ep, hidT_get e (untracked e fun _ z => ?_), d, r⟩
      subst z
      exact nomatch d
    have KB : K.In (hidT s1.heap H) := by
      intro b o e
      refine hidT_get (KX b o e) ?_
      match q : H b with
      | none => rfl
      | some u =>
        obtain ⟨e1, e2⟩ := at1 b u q
        subst e1
        rw [e2] at e
        exact nomatch e
    have M : Mod K mg (hidT s1.heap H) := by
      obtain ⟨mc, l1, l2⟩ := lim
      exact ⟨KB, nsB hns, ⟨mb, nsB hb, hbb⟩, ⟨mc, nsB l1, l2⟩⟩
    have no : ∀ b : Addr, b ∉ ([] : List Addr) := fun b z => nomatch z
    have e0 : Env0 P w K mg (hidT s1.heap H) callerA [] s1 H :=
      ⟨rfl, M, fun b o e => of_hidT e, Nat.le_of_eq (hidT_size _ _), trivial, fun b z => (no b z).elim, ok, .of_eq hg⟩
    refine codeAny_mono (F _ KB (nsB hns) [] s1 H _ [.ref a] [.ref a] _ _ e0 (bind s1 (.ref a)) (.cons rfl .nil) (hsp H only sq)) ?_
    intro r s' h
    match r, h with
    | .ok (.ret u), ⟨v, H', os, bare, un, ok', ru, q⟩ =>
      have q' : v = V.bl true := q
      subst q'
      have ru' : u = Value.bool true := ru
      refine ⟨by rw [ru'], OldK.of_keep ?_, os, bare⟩
      intro b o e
      match q : H b with
      | none => exact un.keep b o e q (no b) (no b)
      | some u' =>
        cases only b with
        | inl z => rw [q] at z; exact nomatch z
        | inr z =>
          obtain ⟨ob, xs, z⟩ := z
          have k1 := (ok b _ z).1
          have k2 := (ok' b _ (un.frzs b ob _ z)).1
          rw [← Option.some.inj (k1.symm.trans e)]
          exact k2
  match hk : K.lookup a with
  | some o =>
    have e := Option.some.inj ((KX a o hk).symm.trans ha)
    subst e
    exact ⟨fun _ => none, fun _ => Or.inl rfl, Or.inr ⟨_, vs.toArray, _, hk, rfl, rfl, rfl, by rw [List.size_toArray, hi.length]; exact hl, by simpa using rv⟩,
      (fun b u z => nomatch (show (none : Option HO) = some u from z)), fun b u z => nomatch (show (none : Option HO) = some u from z)⟩
  | none =>
    let fz : HO := .frz { cls := .type "list", data := .seq vs.toArray } (.lst (ns.map V.int))
    have off : ∀ b u, (if b = a then some fz else none) = some u → b = a ∧ u = fz := by
      intro b u z
      by_cases q : b = a
      · rw [if_pos q] at z
        exact ⟨q, (Option.some.inj z).symm⟩
      · rw [if_neg q] at z
        exact nomatch z
    refine ⟨fun b => if b = a then some fz else none, ?_, Or.inl (Or.inr ⟨_, if_pos rfl⟩), ?_, fun b u z => ⟨(off b u z).1, rfl⟩⟩
    · intro b
      by_cases q : b = a
      · exact Or.inr ⟨_, _, if_pos q⟩
      · exact Or.inl (if_neg q)
    · intro b u z
      obtain ⟨e1, e2⟩ := off b u z
      subst e1 e2
      exact ⟨ha, by rw [List.length_map]; exact hl, vs, _, rv, ha⟩
/-- what k_head leaves, by it -/
theorem walk_at_ {l : PySem.W.OpenLaw} {n : Nat} {q : Program} {loose : List Str} {XP : (Str → Option Value) → Heap → Prop} {YP : World → Heap → Prop} {d : DefRec}
    {K : Params → PySem.W.Frag} {sp : World → Sp} {x : Str} (hn : l.most = some n) (hn2 : n ≤ sizeLine) (hdf : d.params.defaults = [])
    (hY : ∀ (w : World) (h : Heap), YP w h → (K w.params).In h)
    (F : ∀ (w : World) (mg : Str → Option Value) (fa : Addr) (h : Heap), (K w.params).In h → h.Ns mainGlobals mg → mg d.name = some (.ref fa) →
      ∃ fd : FuncData, (∀ (s : Shared) (u : Value), BindsTo s fd ⟨[u], []⟩ [(x, u)]) ∧
        ∀ base : Heap, (K w.params).In base → base.Ns mainGlobals mg → FnAt l.prog w (K w.params) mg base callerA fa fd [x] (sp w))
    (hsp : ∀ (w : World) (H : Hp) (a : Addr) (ns : List Int), ns.length ≤ n → Only H → SqL (K w.params) H a (ns.map V.int) →
      sp w [.ref a] H (fun v _ => v = .bl true) fun _ _ _ => False) :
    PySem.W.WalkO q loose XP YP l.row.toRowW d [] (fun f vs => PySem.call f vs) := by
  refine Att.attach_call hn hdf ?_
  intro w s0 s1 mg mb fa o pm cd doc a vs ns G Y ho hd hcd hmg hobj hints hlen hg
  obtain ⟨fd, hb, hF⟩ := F w mg fa _ (hY w _ Y) G.T.g hmg
  exact law_at (hY w _ Y) G.T.g G.T.b G.T.builtins G.T.nolimit hg hobj hints (Nat.le_trans hlen hn2) hF hb
    (fun H hO hS => hsp w H a ns hlen hO hS)
section
variable {X : Cx}
/-- repr(x), x data, where no repr is under way -/
theorem cr_reprD (hg : X.A.guards = some []) (hu : X.A.units + 66 < cLine) :
    CallR X (.builtin "repr") (fun xs H Q => ∃ (x : V) (d : PyData), xs = [x] ∧ Dp X.K H x d ∧ SeqAt.shaped d = true ∧ d.showable = true ∧ d.shown.length ≤ sizeLine ∧ Q (.str d.shown) H) := by
  intro pins s σ H xs us Q I r h
  obtain ⟨x, d, rfl, hd, sd, sh, hz, q⟩ := h
  obtain ⟨u, rfl, ru⟩ := vals1 r
  obtain ⟨as, rd⟩ := Dp.reads I d x u hd ru
  have hdp := SeqAt.depth_of_shaped sd
  have fin : ∀ (h' : Heap) (t : Tok) (k : Nat), (∀ b o, s.heap.get? b = some o → h'.get? b = some o) → EP X pins σ Q (.str d.shown t) { s with heap := h', toks := k } :=
    fun h' t k kp => ⟨.str d.shown, H, I.kept kp, ⟨t, rfl⟩, q⟩
  cases hd with
  | non => cases ru; exact PySem.P.repr_of_none (fin s.heap _ _ fun _ _ e => e)
  | bl b => cases ru; exact PySem.P.repr_of_bool (fin s.heap _ _ fun _ _ e => e)
  | int i =>
    obtain ⟨t, rfl⟩ := ru
    exact PySem.P.repr_of_int (of_decide_eq_true sh) (fin s.heap _ _ fun _ _ e => e)
  | str z =>
    obtain ⟨t, rfl⟩ := ru
    exact PySem.P.repr_of_str (hsz := hz) (fin s.heap _ _ fun _ _ e => e)
  | lst a b =>
    cases ru
    exact repr_of_reads' rd sh (PyData.noDict_hsm (PyData.hasDict_of_canLay _ (SeqAt.canLay_of_shaped sd))) hg (by omega) (fun _ _ e => e) (fun h' t k kp => fin h' t k kp) (hsz := hz)
  | tup a b =>
    cases ru
    exact repr_of_reads' rd sh (PyData.noDict_hsm (PyData.hasDict_of_canLay _ (SeqAt.canLay_of_shaped sd))) hg (by omega) (fun _ _ e => e) (fun h' t k kp => fin h' t k kp) (hsz := hz)
end
end My
namespace My
open PySem PySem.Spec PyProof.Rows L2
section
variable {X : Cx} {CX : CXT} {k : Nat} {f C : Addr} {fd : FuncData} {ps : List Str} {sp : Sp} {x : Str} {p pos : Pos} {e : Expr} {es : List Expr} {t : TA} {ds : List Value} {dvs : List V}
/-- C(e, ..) where what the maker raises is wished for at the caller's slots -/
def tMakeS (C : Addr) (sp : Sp) (dvs : List V) (E : L2.St → XK) (t : TA) : TE := fun σ H Q => t σ H fun vs H1 =>
  ∀ x dx, H1 x = none → H1 dx = none → dx ≠ x → sp (.ref x :: (vs ++ dvs)) (upd (upd H1 dx (.own x)) x (.ins C dx [])) (fun v H2 => v = .non ∧ Q (.ref x) H2) (E σ)
theorem pe_makeS {E : L2.St → XK} (M : Mk X.K C f) (F : FnOk X.prog X.w X.K X.mg X.base CX k f fd ps sp) (hr : Room (k + 1) X.A) (hg : Gl X x) (hm : X.mg x = some (.ref C))
    (hb : Binds X.K fd ps ds) (hd : Vals dvs ds) (hx : ∀ σ, PassesAt CX X σ (E σ)) (ha : PA X (e :: es) t) (hdb : (x == ("__debug__" : Str)) = false := by decide)
    (he : starEach (e :: es) X.env = (false, eval e X.env) :: starEach es X.env := by rfl) (hpl : (backTo pos (starEach es X.env)).any (·.1) = false := by rfl) :
    PE X (.Call (.Name x p) (e :: es) [] pos) (tMakeS C sp dvs E t) := by
  refine ⟨fun pins s0 σ H0 Q I0 h => wpAny_Call_Name_kw (ld_glob I0 hg hm ?_ hdb)⟩
  refine PySem.W.callWith_K (h₀ := X.base) I0.ok.mod.kin M.kp (thn (ha.run pos pins s0 σ H0 _ I0 h) ?_) he hpl
  intro us s z
  obtain ⟨vs, H, I, r, q⟩ := z
  refine ⟨I.kIn, ?_⟩
  have new : ∀ n, s.heap.objs.size ≤ n → H n = none := fun n hn => I.hok.fresh hn
  have hq := q (s.heap.objs.size + 1) s.heap.objs.size (new _ (Nat.le_succ _)) (new _ (Nat.le_refl _)) (Nat.ne_of_lt (Nat.lt_succ_self _))
  have J := Inv.made (C := C) I
  have rr : Vals (V.ref (s.heap.objs.size + 1) :: (vs ++ dvs)) (Value.ref (s.heap.objs.size + 1) :: (us ++ ds)) := .cons rfl (r.append hd)
  have hl : ((Value.ref (s.heap.objs.size + 1) :: us) ++ ds).length = ps.length := (F.len _ _ _ _ hq ▸ rr.length).symm
  refine wpAny_call (make_map (f := f) I.kIn M.makes M.init (beq_iff_eq.mp M.fn) (codeAny_mono
    (F.run _ X.stack _ _ ⟨Value.ref (s.heap.objs.size + 1) :: us, []⟩ _ _ _ (E σ) (hr.make C us []) (J.env0.make C us []) (hb _ (Value.ref (s.heap.objs.size + 1) :: us) J.kIn hl) rr hq) ?_))
  intro res s' z
  match res, z with
  | .error er, z => exact hx σ pins _ _ er s' J z
  | .ok (.ret u), z =>
    obtain ⟨v, H', J', rv, z⟩ := J.after z
    obtain ⟨ev, z⟩ := z
    subst ev
    exact ⟨rv, V.ref (s.heap.objs.size + 1), H', J', rfl, z⟩
end
def Abc (y : Str) : Prop := ∀ c ∈ y.cps.toList, c < 128
/-! any values, as far as their types go -/
inductive Tg where
  | non | bl | int | str | lst | tup
  deriving DecidableEq
def Tg.is : Tg → String → Bool
  | .bl, "bool" => true
  | .bl, "int" => true
  | .int, "int" => true
  | .str, "str" => true
  | .lst, "list" => true
  | .tup, "tuple" => true
  | _, _ => false
inductive Av (H : Hp) : V → Tg → Prop
  | non : Av H .non .non
  | bl (b : Bool) : Av H (.bl b) .bl
  | int (i : Int) : Av H (.int i) .int
  | str (z : Str) (h : Abc z ∧ z.length ≤ 1000) : Av H (.str z) .str
  | lst {a : Addr} {xs : List V} (e : H a = some (.lst xs)) : Av H (.ref a) .lst
  | tup {a : Addr} {xs : List V} (e : H a = some (.tup xs)) : Av H (.ref a) .tup
theorem Av.same {H H' : Hp} {x : V} {t : Tg} (h : Av H x t) (s : Same H H') : Av H' x t := by
  cases h with
  | non => exact .non
  | bl b => exact .bl b
  | int i => exact .int i
  | str z h => exact .str z h
  | lst e => exact .lst (s _ _ e)
  | tup e => exact .tup (s _ _ e)
theorem Av.kit {K : PySem.W.Frag} {H : Hp} {x : V} {t : Tg} (h : Av H x t) {T : String} (hT : T = "int" ∨ T = "bool" ∨ T = "str" ∨ T = "list" ∨ T = "tuple") :
    ∃ ty : Value, TyX K H x ty ∧ PySem.W.kitOne K ty (.type T) = some (t.is T) := by
  cases h with
  | non => refine ⟨_, .base .non, ?_⟩; rcases hT with rfl | rfl | rfl | rfl | rfl <;> exact kit_ty (by decide +kernel)
  | bl b => refine ⟨_, .base (.bl b), ?_⟩; rcases hT with rfl | rfl | rfl | rfl | rfl <;> exact kit_ty (by decide +kernel)
  | int i => refine ⟨_, .base (.int i), ?_⟩; rcases hT with rfl | rfl | rfl | rfl | rfl <;> exact kit_ty (by decide +kernel)
  | str z h => refine ⟨_, .base (.str z), ?_⟩; rcases hT with rfl | rfl | rfl | rfl | rfl <;> exact kit_ty (by decide +kernel)
  | lst e => refine ⟨_, .base (.lst e), ?_⟩; rcases hT with rfl | rfl | rfl | rfl | rfl <;> exact kit_ty (by decide +kernel)
  | tup e => refine ⟨_, .base (.tup e), ?_⟩; rcases hT with rfl | rfl | rfl | rfl | rfl <;> exact kit_ty (by decide +kernel)
/-- isinstance(x, T), x any value -/
def rIsA : List V → Hp → VK → Prop := fun xs H Q => ∃ (x : V) (T : String) (t : Tg), xs = [x, .ty T] ∧ (T = "int" ∨ T = "bool" ∨ T = "str" ∨ T = "list" ∨ T = "tuple") ∧ Av H x t ∧ Q (.bl (t.is T)) H
theorem cr_isA {X : Cx} : CallR X (.builtin "isinstance") rIsA := by
  intro pins s σ H xs us Q I r h
  obtain ⟨x, T, t, rfl, hT, av, q⟩ := h
  obtain ⟨ty, h1, h2⟩ := av.kit (K := X.K) hT
  exact call_isi pins s σ H _ us Q I r ⟨x, .ty T, ty, .type T, t.is T, rfl, .ty T, h1, h2, q⟩
/-- isinstance(e, c), e the caught exception, with its own dict -/
def rIsX (K : PySem.W.Frag) (a : Addr) (cls : Value) (d : Option Addr) : List V → Hp → VK → Prop := fun xs H Q => ∃ (D dd : Addr) (fs : List (Str × V)) (c : V) (cv : Value) (b : Bool),
  xs = [.ref a, c] ∧ cls = .ref D ∧ d = some dd ∧ H dd = some (.xd fs) ∧ ExcC K D ∧ (∀ u, RelV c u → u = cv) ∧ PySem.W.kitOne K (.ref D) cv = some b ∧ Q (.bl b) H
theorem cr_isX {X : Cx} {a : Addr} {oe : Obj} {cls : Value} {d : Option Addr} {pn : List (Addr × Obj)} (hz : Zc cls d oe) (hf : ∃ vs, oe.data = .fields vs) :
    CallR (X.suite a ((a, oe) :: pn)) (.builtin "isinstance") (rIsX X.K a cls d) := by
  intro pins s σ H xs us Q I r h
  obtain ⟨D, dd, fs, c, cv, b, rfl, ec, ed, ea, C, hcv, e, q⟩ := h
  subst ec ed
  cases r with
  | cons rx rr => cases rr with
    | cons rt rr =>
      cases rr
      cases rx
      have ev := hcv _ rt
      subst ev
      obtain ⟨hget, _⟩ := I.pin (a, oe) (List.mem_append.mpr (.inl List.mem_cons_self))
      obtain ⟨vs, hv⟩ := hf
      have hx : ObjOk X.prog X.w H s.heap dd (.xd fs) := I.hok dd _ ea
      obtain ⟨mA, hns, hr⟩ := hx
      obtain ⟨od, ho, hl⟩ := lookIn_ns hns
      have J : PySem.W.InstAt s.heap a oe D (some od) := ⟨hget, hz.1, by unfold PySem.W.notCls; rw [hv] <;> rfl, by rw [hz.2]; exact ho⟩
      have cl : (PySem.W.clsIn X.K D).isSome = true := by
        obtain ⟨cd, hc, _⟩ := PySem.W.any_some C.hd
        rw [hc]
        rfl
      exact PySem.W.kia_one (PySem.W.kitx_exc cl C.hg C.hk C.hs C.ha C.hn C.ht C.hm) I.kIn J e (fun z => nomatch z) fun tk => ⟨.bl b, H, I.kept (t' := tk) fun _ _ z => z, rfl, q⟩
/-- all(xs), any(xs), of bools: as the library has them. The words of a text's signs -/
def wordB (z : Str) : Bool := z.cps.toList.all fun c => decide (97 ≤ c ∧ c ≤ 122)
def isNum : V → Bool
  | .int i => decide (0 ≤ i)
  | _ => false
def isWord : V → Bool
  | .str z => wordB z
  | _ => false
/-- 'a' <= one sign <= 'z' by the texts' order -/
theorem sign_le (lo c : Nat) : (!decide ((⟨#[c]⟩ : Str).cps.toList < [lo])) = decide (lo ≤ c) := by
  have e : ((⟨#[c]⟩ : Str).cps.toList < [lo]) ↔ c < lo := by
    show ([c] < [lo]) ↔ _
    rw [List.cons_lt_cons_iff]
    exact ⟨fun h => h.elim id fun h => absurd h.2 (List.lt_irrefl []), Or.inl⟩
  by_cases h : lo ≤ c
  · rw [decide_eq_true h, decide_eq_false (fun z => by have := e.mp z; omega)]
    rfl
  · rw [decide_eq_false h, decide_eq_true (e.mpr (by omega))]
    rfl
theorem sign_ge (hi c : Nat) : (!decide ([hi] < (⟨#[c]⟩ : Str).cps.toList)) = decide (c ≤ hi) := by
  have e : ([hi] < (⟨#[c]⟩ : Str).cps.toList) ↔ hi < c := by
    show ([hi] < [c]) ↔ _
    rw [List.cons_lt_cons_iff]
    exact ⟨fun h => h.elim id fun h => absurd h.2 (List.lt_irrefl []), Or.inl⟩
  by_cases h : c ≤ hi
  · rw [decide_eq_true h, decide_eq_false (fun z => by have := e.mp z; omega)]
    rfl
  · rw [decide_eq_false h, decide_eq_true (e.mpr (by omega))]
    rfl
end My
/-! own == and != and str() of an own class, told by its own defs -/
namespace My
open PySem PySem.Spec PyProof.Rows L2
section
variable {X : Cx} {pins : List (Addr × Obj)} {σ : L2.St} {H : Hp} {s : Shared} {k : Nat} {f C : Addr} {fd : FuncData} {ps : List Str} {sp : Sp}
/-- a def that lets nothing out, called somewhere below this body -/
theorem run_in {A' : Around} {E : XK} {Q : VK} {us : List Value} {vs : List V} (fr : A'.frames = X.A.frames) (F : FnOk X.prog X.w X.K X.mg X.base CX0 k f fd ps sp) (hr : Room k A')
    (hb : Binds X.K fd ps []) (I : Inv X pins σ H s) (r : Vals vs us) (h : sp vs H Q E) : wpAny (model X.prog X.w) A' (call (.ref f) us) (EP X pins σ Q) X.xe s := by
  have e := I.env0
  have e0 : Env0 X.prog X.w X.K X.mg X.base A' X.stack s H := ⟨fr.trans e.frames, e.mod, e.bs, e.bsz, e.funs, e.frf, e.hok, e.bare⟩
  have hl : us.length = ps.length := r.length ▸ F.len _ _ _ _ h
  have b := hb s us I.kIn (by rw [List.append_nil]; exact hl)
  rw [List.append_nil] at b
  refine wpAny_call (codeAny_mono (F.run A' X.stack s H _ us vs Q E hr e0 b r h) ?_)
  intro res s' z
  match res, z with
  | .error _, z => exact False.elim z
  | .ok (.ret u), z => exact I.after z
/-- an own instance, as the library's rules want it -/
theorem inst_of {a dx : Addr} {fs : List (Str × V)} (I : Inv X pins σ H s) (ha : H a = some (.ins C dx fs)) : ∃ ox od, PySem.W.InstAt s.heap a ox C od := by
  obtain ⟨mA, J, _⟩ := ins_get I.hok ha
  obtain ⟨od, J, _⟩ := J.look
  exact ⟨_, _, J⟩
/-- str(x) by the own __str__ -/
theorem cr_strOwn (F : FnOk X.prog X.w X.K X.mg X.base CX0 k f fd ps sp) (hr : Room (k + 2) X.A) (hb : Binds X.K fd ps [])
    (hs : PySem.W.findIn X.K (.ref C) "__str__" = some (some (.ref f))) (hf : PySem.W.isFn X.K (.ref f) = true) :
    CallR X (.type "str") (fun xs H Q => ∃ a dx fs, xs = [.ref a] ∧ H a = some (.ins C dx fs) ∧ sp [.ref a] H (fun v H' => ∃ z : Str, v = .str z ∧ Q (.str z) H') (fun _ _ _ => False)) := by
  intro pins s σ H xs us Q I r h
  obtain ⟨a, dx, fs, rfl, ha, q⟩ := h
  obtain ⟨u, rfl, ru⟩ := vals1 r
  cases ru
  obtain ⟨ox, od, J⟩ := inst_of I ha
  have r2 := hr.in1.in1
  refine PySem.W.kso_call r2.units0 I.kIn J hs hf (wpAny_mono (run_in rfl F r2 hb I (.cons (show RelV (V.ref a) (Value.ref a) from rfl) .nil) q) ?_ fun _ _ e => e)
  intro v s' z
  obtain ⟨y, H', I', ry, zz, ey, q'⟩ := z
  subst ey
  obtain ⟨t, rfl⟩ := ry
  exact ⟨V.str zz, H', I', ⟨t, rfl⟩, q'⟩
/-- what such a comparison gives back -/
abbrev BoolK (Q : VK) : VK := fun v H' => ∃ b : Bool, v = .bl b ∧ Q (.bl b) H'
/-- x == y, both of the class, by the own __eq__ -/
def rEqO (C : Addr) (sp : Sp) : R2 := fun x y H Q => ∃ a dx fs b dy gs, x = .ref a ∧ y = .ref b ∧ H a = some (.ins C dx fs) ∧ H b = some (.ins C dy gs) ∧ sp [.ref a, .ref b] H (BoolK Q) (fun _ _ _ => False)
theorem op_eqO (F : FnOk X.prog X.w X.K X.mg X.base CX0 k f fd ps sp) (hr : Room k X.A) (hb : Binds X.K fd ps [])
    (hs : PySem.W.findIn X.K (.ref C) "__eq__" = some (some (.ref f))) (hf : PySem.W.isFn X.K (.ref f) = true) : OpR X (compareOp .Eq) (rEqO C sp) := by
  intro pins s σ H x y v u Q I rx ry h
  obtain ⟨a, dx, fs, b, dy, gs, rfl, rfl, ha, hb', q⟩ := h
  cases rx
  cases ry
  obtain ⟨ox, od, J⟩ := inst_of I ha
  obtain ⟨oy, oe, J'⟩ := inst_of I hb'
  obtain ⟨m, hF⟩ := I.fr
  show wpAny _ _ (richCompare .Eq (.ref a) (.ref b)) _ _ _
  refine PySem.W.cmp_K (op := .Eq) (tb := .ref C) hr.units0 hF I.ok.mod.kin J J'.type (by simp [PySem.W.notFirst]) hs hf (wpAny_mono (run_in rfl F hr hb I (.cons (show RelV (V.ref a) (Value.ref a) from rfl) (.cons (show RelV (V.ref b) (Value.ref b) from rfl) .nil)) q) ?_ fun _ _ e => e)
  intro v s' z
  obtain ⟨y, H', I', ry, bb, ey, q'⟩ := z
  subst ey
  cases ry
  exact ⟨V.bl bb, H', I', rfl, q'⟩
/-- a name of the class that is a built-in method -/
theorem if_bound {M : Model} {A : Around} {E : Value → Shared → Prop} {K : PySem.W.Frag} {x : Addr} {ox : Obj} {od : Option Obj} {name : Str} {id : String} {args : List Value} {Q : Option Value → Shared → Prop}
    (KX : K.In s.heap) (I : PySem.W.InstAt s.heap x ox C od) (hs : PySem.W.findIn K (.ref C) name = some (some (.builtin id))) (hb : ∀ self, bindSpecial (.builtin id) self = pure (.builtin id, [self]))
    (h : wpAny M A (call (.builtin id) (.ref x :: args)) (fun v => Q (some v)) E s) : wpAny M A (callSpecialIfBound? (.ref x) name args) Q E s := by
  have fin : wpAny M A (call (.builtin id) ([.ref x] ++ args) >>= fun v => pure (some v)) Q E s := wpAny_bind (wpAny_mono h (fun v s' z => wpAny_pure z) fun _ _ z => z)
  simp only [callSpecialIfBound?, bindSpecialIfBound?]
  refine wpAny_holding (wpAny_bind (wpAny_bind (wpAny_bind (I.type.here ((PySem.W.looks_findIn KX hs).here ?_)))))
  refine wpAny_bind (wpAny_askSetting (wpAny_ite ?_))
  rw [hb]
  split
  · exact wpAny_bind (wpAny_pure (wpAny_pure fin))
  · exact wpAny_tryCatch (wpAny_bind (wpAny_pure (wpAny_pure fin)))
/-- a comparison whose left side answers -/
theorem rc_left {prog : Program} {w : World} {A : Around} {E : Value → Shared → Prop} {x y : Addr} {ox oy : Obj} {od oe : Option Obj} {op : CmpOp} {Q : Value → Shared → Prop} (hu : A.units < cLine)
    (I : PySem.W.InstAt s.heap x ox C od) (J : PySem.W.InstAt s.heap y oy C oe)
    (one : wpAny (model prog w) A (tryCompare (.ref x) (cmpInfo op).2.1 (.ref y)) (fun r s' => ∃ v, r = some v ∧ Q v s') E s) : wpAny (model prog w) A (richCompare op (.ref x) (.ref y)) Q E s := by
  unfold richCompare
  simp only [oneThing_ref]
  refine wpAny_holding (wpAny_bind (wpAny_cRoomFor hu (wpAny_bind (I.type.here (wpAny_bind (J.type.here ?_))))))
  rw [if_neg (by simp)]
  refine wpAny_bind (wpAny_pure ?_)
  simp only [Bool.false_eq_true, if_false]
  refine wpAny_bind (wpAny_mono one (fun r s' z => ?_) fun _ _ e => e)
  obtain ⟨v, rfl, q⟩ := z
  exact wpAny_pure q
/-- x != y, both of the class, which has its own __eq__ and no __ne__ of its own -/
theorem op_neO (F : FnOk X.prog X.w X.K X.mg X.base CX0 k f fd ps sp) (hr : Room (k + 1) X.A) (hb : Binds X.K fd ps [])
    (hs : PySem.W.findIn X.K (.ref C) "__eq__" = some (some (.ref f))) (hf : PySem.W.isFn X.K (.ref f) = true)
    (hn : PySem.W.findIn X.K (.ref C) "__ne__" = some (some (.builtin "object.__ne__"))) (hm : PySem.W.mroIn X.K C (.type "object") = some true) :
    OpR X (compareOp .NotEq) (fun x y H Q => rEqO C sp x y H (fun v H' => ∃ b : Bool, v = .bl b ∧ Q (.bl (!b)) H')) := by
  intro pins s σ H x y v u Q I rx ry h
  obtain ⟨a, dx, fs, b, dy, gs, rfl, rfl, ha, hb', q⟩ := h
  cases rx
  cases ry
  obtain ⟨ox, od, J⟩ := inst_of I ha
  obtain ⟨oy, oe, J'⟩ := inst_of I hb'
  show wpAny _ _ (richCompare .NotEq (.ref a) (.ref b)) _ _ _
  refine rc_left hr.units0 J J' ?_
  show wpAny _ _ (tryCompare (.ref a) "__ne__" (.ref b)) _ _ _
  unfold tryCompare
  refine wpAny_bind (if_bound I.kIn J hn PySem.F.slot_object_ne.bind ?_)
  refine wpAny_call (codeAny_call_builtin PySem.F.slot_object_ne.plain PySem.F.cmpEntry_ne ?_)
  refine PySem.W.check_slot (i := "object.__ne__") (owner := "object") (n := "__ne__") (by decide +kernel) (by decide +kernel) (J.type.andThen (PySem.W.looks_mroIn I.kIn hm)) (PySem.F.cmpArgs_ne _ _) ?_
  unfold Builtin.«object.__ne__»
  refine wpAny_bind (m := slotArgs "__ne__" 1 _) (wpAny_pure ?_)
  refine wpAny_bind (m := cRoomFor _ _) (wpAny_cRoomFor hr.in1.units0 ?_)
  refine wpAny_bind (m := callSpecialIfBound? (.ref a) (Str.ofString "__eq__") [.ref b]) (PySem.W.ifBound_K I.kIn J hs hf (wpAny_mono (run_in (A' := X.A.in1) rfl F hr.in1 hb I (.cons (show RelV (V.ref a) (Value.ref a) from rfl) (.cons (show RelV (V.ref b) (Value.ref b) from rfl) .nil)) q) ?_ fun _ _ e => e))
  intro v s' z
  obtain ⟨y, H', I', ry, bb, ey, q'⟩ := z
  subst ey
  cases ry
  obtain ⟨b2, e2, q'⟩ := q'
  cases e2
  refine wpAny_bind (wpAny_truthy_bool ?_)
  exact wpAny_pure (wpAny_pure ⟨_, rfl, V.bl (!bb), H', I', rfl, q'⟩)
end
end My
/-! an own instance sought in a tuple of built-in values: its own == is asked from the right -/
namespace My
open PySem PySem.Spec PyProof.Rows L2
open PySem.SeqAt AutoSeq1 MeetsSeq MeetsSeq2 MeetsSeq3 SeqRoads2
theorem str_eq_inst (z : Str) (t : Tok) (x C dx : Addr) :
    Meets (Builtin.«str.__eq__» ⟨[.str z t, .ref x], []⟩) (fun _ R s => s.heap.get? x = some (PySem.W.instObj C dx) ∧ R (.ok (.ret .notImplemented)) s) :=
  .of_wp fun prog w A R s h => by
    obtain ⟨hp, g, d, tk, os⟩ := s
    obtain ⟨hl, h⟩ := h
    unfold PySem.W.instObj at hl
    wp_walk using wpAny_loadPart' hl, wpAny_load hl
    exact ⟨_, rfl, h⟩
theorem tup_eq_inst (l x C dx : Addr) :
    Meets (Builtin.«tuple.__eq__» ⟨[.ref l, .ref x], []⟩) (fun _ R s => s.heap.get? x = some (PySem.W.instObj C dx) ∧ (∀ M : Model, PySem.W.Looks M s.heap (isSubtype (.ref C) (.type "tuple")) false) ∧ R (.ok (.ret .notImplemented)) s) :=
  .of_wp fun prog w A R s h => by
    obtain ⟨hl, hs, h⟩ := h
    have one : ∀ (Q : Bool → Shared → Prop) E, Q false s → wpAny (model prog w) A.in1 (isInstance (.ref x) (.type "tuple")) Q E s := fun Q E q => by
      unfold isInstance
      refine wpAny_bind (wpAny_typeOf_ref hl ?_)
      exact (hs (model prog w)).here q
    obtain ⟨hp, g, d, tk, os⟩ := s
    wp_walk using one
    exact ⟨_, rfl, h⟩
theorem non_eq_inst (x : Addr) : Meets (Builtin.«NoneType.__eq__» ⟨[.none, .ref x], []⟩) (fun _ R s => R (.ok (.ret .notImplemented)) s) :=
  .of_wp fun prog w A R s h => by
    obtain ⟨hp, g, d, tk, os⟩ := s
    wp_walk
    exact ⟨_, rfl, h⟩
section
variable {prog : Program} {w : World} {A : Around} {E : Value → Shared → Prop} {s : Shared} {C x f : Addr} {ox : Obj} {od : Option Obj} {K : PySem.W.Frag}
/-- item == x, where the item's type declines and x's own == answers -/
theorem rc_right {item : Value} {T id : String} {Q : Value → Shared → Prop} (hu : A.units < cLine) (KX : K.In s.heap) (J : PySem.W.InstAt s.heap x ox C od) (hT : s.TypeIs item T)
    (slot : Slot T (cmpInfo .Eq).2.1 id) (h1 : oneThing? .Eq item (.ref x) = none) (hsub : PySem.W.subIn K (.ref C) (.type T) = some false)
    (hc : ∀ Q' : Value → Shared → Prop, Q' .notImplemented s → wpAny (model prog w) A (call (.builtin id) [item, .ref x]) Q' E s)
    (hs : PySem.W.findIn K (.ref C) "__eq__" = some (some (.ref f))) (hf : PySem.W.isFn K (.ref f) = true)
    (own : wpAny (model prog w) A (call (.ref f) [.ref x, item]) (fun v s' => ∃ b, v = .bool b ∧ Q (.bool b) s') E s) :
    wpAny (model prog w) A (richCompare .Eq item (.ref x)) Q E s := by
  unfold richCompare
  rw [h1]
  refine wpAny_holding (wpAny_bind (wpAny_cRoomFor hu ?_))
  show wpAny _ _ (typeOf item >>= _) _ _ _
  refine wpAny_bind (wpAny_typeOf hT (wpAny_bind (J.type.here ?_)))
  rw [if_pos (by simp)]
  refine wpAny_bind ((PySem.W.looks_subIn KX hsub).here ?_)
  simp only [Bool.false_eq_true, if_false]
  refine wpAny_bind (wpAny_tryCompare_declines hT slot (hc _ ⟨rfl, ?_⟩))
  simp only [Bool.not_false, if_true]
  unfold tryCompare
  refine wpAny_bind (wpAny_bind (PySem.W.ifBound_K KX J hs hf (wpAny_mono own ?_ fun _ _ e => e)))
  intro v s' z
  obtain ⟨b, rfl, q⟩ := z
  exact wpAny_pure (wpAny_pure q)
theorem eqb_of_rc {item : Value} {Q : Bool → Shared → Prop} (hne : (item == Value.ref x) = false) (hfl : ∀ a t, item ≠ .float a t)
    (h : wpAny (model prog w) A (richCompare .Eq item (.ref x)) (fun v s' => ∃ b, v = .bool b ∧ Q b s') E s) : wpAny (model prog w) A (eqBool item (.ref x)) Q E s := by
  unfold eqBool
  refine wpAny_holding ?_
  rw [hne]
  simp only [Bool.false_eq_true, if_false]
  refine wpAny_bind (wpAny_mono h (fun v s' z => ?_) fun _ _ e => e)
  obtain ⟨b, rfl, q⟩ := z
  exact wpAny_truthy_bool q
end
theorem tup_no {prog : Program} {w : World} {A : Around} {R : Result → Shared → Prop} (l : Addr) (items : Array Value) (n : Nat) (dd : Option Addr) (sl : Array (Option Value)) (x : Value) (I : Shared → Prop)
    (turn : ∀ y, y ∈ items → ∀ s, I s → wpAny (model prog w) A.in1 (eqBool y x) (fun r s' => r = false ∧ I s') (fun e s' => R (.error e) s') s) (fin : ∀ s, I s → R (.ok (.ret (.bool false))) s)
    {s : Shared} (hl : s.heap.get? l = some { cls := .type "tuple", dict := dd, data := .seq items n, slots := sl }) (h0 : I s) :
    wpAny (model prog w) A.in1 (Builtin.«tuple.__contains__» ⟨[.ref l, x], []⟩) (GQ.FinOf prog w A R) (fun e s' => R (.error e) s') s := by
  obtain ⟨hp, g, d, tk, os⟩ := s
  wp_walk using wpAny_loadPart' hl, wpAny_forIn_array _ (fun rest b s' => b.1 = none ∧ I s' ∧ ∀ y, y ∈ rest → y ∈ items) _
  case turn =>
    rintro y rest b s' ⟨hb, hI, hmem⟩
    refine wpAny_bind (wpAny_mono (turn y (hmem y (List.mem_cons_self ..)) s' hI) (fun r s2 q => ?_) fun _ _ e => e)
    obtain ⟨hr, q⟩ := q
    subst hr
    wp_walk
    exact ⟨rfl, q, fun z hz => hmem z (List.mem_cons_of_mem _ hz)⟩
  case fin =>
    rintro ⟨b1, b2⟩ s' ⟨hb, hI, -⟩
    simp only at hb
    subst hb
    have hR := fin s' hI
    wp_walk
    exact hR
  case h =>
    exact ⟨rfl, h0, fun y hy => by simpa using hy⟩
section
variable {X : Cx} {k : Nat} {f C : Addr} {fd : FuncData} {ps : List Str} {sp : Sp}
/-- x is not in a tuple of texts, None and tuples: its own == says no to each -/
def rNotIn (K : PySem.W.Frag) (C : Addr) (sp : Sp) : R2 := fun x y H Q => ∃ a dx fs p xs, x = .ref a ∧ y = .ref p ∧ H a = some (.ins C dx fs) ∧ H p = some (.tup xs) ∧
  (∀ v ∈ xs, (∃ z, v = .str z) ∨ v = .non ∨ ∃ q ys, v = .ref q ∧ H q = some (.tup ys)) ∧
  (∀ v ∈ xs, ∀ H', Same H H' → sp [.ref a, v] H' (fun r H2 => r = .bl false ∧ Same H' H2) (fun _ _ _ => False)) ∧ ∀ H', Same H H' → Q (.bl false) H'
theorem op_inO (F : FnOk X.prog X.w X.K X.mg X.base CX0 k f fd ps sp) (hr : Room (k + 1) X.A) (hb : Binds X.K fd ps [])
    (hs : PySem.W.findIn X.K (.ref C) "__eq__" = some (some (.ref f))) (hf : PySem.W.isFn X.K (.ref f) = true) (b1 : PySem.W.subIn X.K (.ref C) (.type "str") = some false)
    (b2 : PySem.W.subIn X.K (.ref C) (.type "NoneType") = some false) (b3 : PySem.W.subIn X.K (.ref C) (.type "tuple") = some false) : OpR X (compareOp .In) (rNotIn X.K C sp) := by
  intro pins s σ H x y v u Q I rx ry h
  obtain ⟨a, dx, fs, p, xs, rfl, rfl, ha, hp, hk, hsp, q⟩ := h
  cases rx
  cases ry
  obtain ⟨its, r, pt, hz⟩ := I.tuple (SqT.of hp)
  obtain ⟨⟨cls, dd, data, sl⟩, ho, hc, n, hd⟩ := id pt
  simp only at hc hd
  subst hc hd
  show wpAny _ _ (do return Value.bool (← contains (Value.ref p) (Value.ref a))) _ _ _
  refine wpAny_bind (wpAny_contains_slot ⟨_, ho, rfl⟩ PySem.F.slot_tuple_contains (GQ.call_here PySem.F.slot_tuple_contains ⟨_, ho, rfl⟩ PySem.F.entry_tuple_contains (PySem.F.args_tuple_contains_2 _ _)
    (tup_no p _ n _ _ (.ref a) (fun s' => ∃ H', Inv X pins σ H' s' ∧ Same H H') (fun z hz s' hI => ?_) (fun s' hI => ?_) ho ⟨H, I, Same.refl _⟩)))
  · obtain ⟨H', I', s1⟩ := hI
    obtain ⟨j, hj, ej⟩ := List.mem_iff_getElem.mp (show z ∈ its by simpa using hz)
    have hjx : j < xs.length := by rw [r.length]; exact hj
    obtain ⟨u, hu, ru⟩ := r.get (List.getElem?_eq_getElem hjx)
    have eu : u = z := by
      rw [List.getElem?_eq_getElem hj, ej] at hu
      exact (Option.some.inj hu).symm
    subst eu
    have hv := hk _ (List.getElem_mem hjx)
    have hq := hsp _ (List.getElem_mem hjx) H' s1
    have ha' := s1 _ _ ha
    obtain ⟨mA, J0, _⟩ := ins_get I'.hok ha'
    obtain ⟨od, J, _⟩ := J0.look
    have hob : s'.heap.get? a = some (PySem.W.instObj C dx) := J0.1
    have r1 := hr.in1
    have own : wpAny (model X.prog X.w) X.A.in1 (call (.ref f) [.ref a, u]) (fun v s2 => ∃ b, v = .bool b ∧ (b = false ∧ ∃ H2, Inv X pins σ H2 s2 ∧ Same H H2)) X.xe s' := by
      refine wpAny_mono (run_in (A' := X.A.in1) rfl F r1 hb I' (.cons (show RelV (V.ref a) (Value.ref a) from rfl) (.cons ru .nil)) hq) ?_ fun _ _ e => e
      intro v s2 zz
      obtain ⟨y, H2, I2, ry, ey, s2'⟩ := zz
      subst ey
      exact ⟨false, ry, rfl, H2, I2, s1.trans s2'⟩
    have fin : ∀ {T id : String}, s'.TypeIs u T → Slot T (cmpInfo .Eq).2.1 id → oneThing? .Eq u (.ref a) = none → PySem.W.subIn X.K (.ref C) (.type T) = some false →
        (∀ Q' : Value → Shared → Prop, Q' .notImplemented s' → wpAny (model X.prog X.w) X.A.in1 (call (.builtin id) [u, .ref a]) Q' X.xe s') → (u == Value.ref a) = false → (∀ b t, u ≠ .float b t) →
        wpAny (model X.prog X.w) X.A.in1 (eqBool u (.ref a)) (fun r s' => r = false ∧ ∃ H', Inv X pins σ H' s' ∧ Same H H') X.xe s' := fun hT sl h1 hsub hcl hne hfl =>
      eqb_of_rc hne hfl (wpAny_mono (rc_right (Q := fun v s2 => ∃ b, v = .bool b ∧ (b = false ∧ ∃ H2, Inv X pins σ H2 s2 ∧ Same H H2)) r1.units0 I'.kIn J hT sl h1 hsub hcl hs hf
        (wpAny_mono own (fun v s2 zz => by obtain ⟨b, e1, e2⟩ := zz; exact ⟨b, e1, b, rfl, e2⟩) fun _ _ e => e)) (fun v s2 zz => zz) fun _ _ e => e)
    rcases hv with ⟨zz, ez⟩ | ez | ⟨qq, ys, ez, eq⟩
    · rw [ez] at ru
      obtain ⟨t, rfl⟩ := ru
      exact fin (typeIs_str _ _ _) PySem.F.slot_str_eq rfl b1 (fun Q' hq' => call_meets PySem.F.slot_str_eq (typeIs_str _ _ _) PySem.F.entry_str_eq (PySem.F.args_str_eq_2 _ _) (str_eq_inst zz t a C dx) ⟨hob, hq'⟩) rfl (fun _ _ e => nomatch e)
    · rw [ez] at ru
      have ru' : u = Value.none := ru
      subst ru'
      exact fin (typeIs_none _) PySem.F.slot_NoneType_eq rfl b2 (fun Q' hq' => call_meets PySem.F.slot_NoneType_eq (typeIs_none _) PySem.F.entry_NoneType_eq (PySem.F.args_NoneType_eq_2 _ _) (non_eq_inst a) hq') rfl (fun _ _ e => nomatch e)
    · rw [ez] at ru
      have ru' : u = Value.ref qq := ru
      subst ru'
      have eq' := s1 _ _ eq
      obtain ⟨its2, r2, pt2, _⟩ := I'.tuple (SqT.of eq')
      obtain ⟨o2, ho2, hc2, _⟩ := pt2
      have nqa : (Value.ref qq == Value.ref a) = false := by
        have : qq ≠ a := ne_of eq' ha' (by intro z; cases z)
        simp [this]
      exact fin ⟨_, ho2, hc2⟩ PySem.F.slot_tuple_eq rfl b3 (fun Q' hq' => call_meets PySem.F.slot_tuple_eq ⟨_, ho2, hc2⟩ PySem.F.entry_tuple_eq (PySem.F.args_tuple_eq_2 _ _) (tup_eq_inst qq a C dx) ⟨hob, fun M => PySem.W.looks_subIn I'.kIn b3, hq'⟩) nqa (fun _ _ e => nomatch e)
  · obtain ⟨H', I', s'⟩ := hI
    exact wpAny_truthy_bool (wpAny_pure ⟨V.bl false, H', I', rfl, q H' s'⟩)
end
end My
/-! C.m(..) of a classmethod that may raise inside a try; cls(..), cls a local name that holds a class -/
namespace My
open PySem PySem.Spec PyProof.Rows L2
section
variable {X : Cx} {CX : CXT} {k i : Nat} {f g C : Addr} {fd : FuncData} {ps : List Str} {sp : Sp} {x m : Str} {p apos pos : Pos} {o e : Expr} {es : List Expr} {ta : TE} {t : TA} {ds : List Value} {dvs : List V} {E : L2.St → XK} {mc : Value} {pa : Addr} {pl : Sem Bool}
def tCMethS (C : Addr) (sp : Sp) (E : L2.St → XK) (ta : TE) (t : TA) : TE := fun σ H Q => ta σ H fun x H1 => x = .ref C ∧ t σ H1 fun vs H2 => sp (.ref C :: vs) H2 Q (E σ)
theorem pe_cmethS (he : PE X o ta) (r : ClX.CRead X.K C mc) (c : ClX.CMet X.K C mc m pa g) (F : FnR X.prog X.w X.K X.mg X.base CX k g sp) (hr : Room k X.A) (hx : ∀ σ, PassesAt CX X σ (E σ)) (ha : PA X (e :: es) t)
    (hst : starEach (e :: es) X.env = (false, eval e X.env) :: starEach es X.env := by rfl) (hpl : (backTo pos (starEach es X.env)).any (·.1) = false := by rfl)
    (ht : eval (.Call (.Attribute o m apos) (e :: es) [] pos) X.env = (do
      let ov ← eval o X.env
      standAt apos.atName
      let (f, first) ← holding [ov] (getMethod ov m pl)
      callWith pos f first (backTo pos (starEach (e :: es) X.env)) (backToKw pos (keywordEach [] X.env))) := by rfl) :
    PE X (.Call (.Attribute o m apos) (e :: es) [] pos) (tCMethS C sp E ta t) := by
  refine ⟨fun pins s σ H Q I h => ?_⟩
  refine PySem.W.methodCall_KW (pl := pl) (thn (he.run pins s σ H _ I h) fun u s1 ⟨x, H1, I1, rx, ex, q⟩ => ?_) ht
  subst ex
  obtain rfl : u = Value.ref C := rx
  refine ClX.getmethcm_ok I1 r c fun s2 I2 => ?_
  refine ClX.callwith_cm I2 (ClX.base_none I1 (Nat.le_refl _)) c.fi (thn (ha.run pos _ s2 σ H1 _ I2 q) fun us s3 ⟨vs, H2, I3, rv, q2⟩ => ⟨⟨ClX.pin_at I3, I3.kIn⟩, ?_⟩) hst hpl
  refine thn (Q := EP X ((s1.heap.objs.size, PySem.W.methodObj (.ref g) (.ref C)) :: pins) σ Q) (wpAny_call (PySem.W.method_call (ClX.pin_at I3) ?_)) fun _ _ y => ClX.unpinE y
  refine codeAny_mono (F X.A X.stack s3 H2 (.ref C :: us) (.ref C :: vs) Q (E σ) hr I3.env0 (.cons rfl rv) q2) fun r s' hq => ?_
  cases r with
  | error e => exact hx σ _ H2 s3 e s' I3 hq
  | ok fl =>
    cases fl with
    | ret u => exact I3.after hq
    | next => exact False.elim hq
    | brk => exact False.elim hq
    | cont => exact False.elim hq
/-- cls(e, ..) -/
def tMakeV (i : Nat) (C : Addr) (sp : Sp) (dvs : List V) (E : L2.St → XK) (t : TA) : TE := fun σ H Q => σ[i]? = some (some (.ref C)) ∧ t σ H fun vs H1 =>
  ∀ x dx, H1 x = none → H1 dx = none → dx ≠ x → sp (.ref x :: (vs ++ dvs)) (upd (upd H1 dx (.own x)) x (.ins C dx [])) (fun v H2 => v = .non ∧ Q (.ref x) H2) (E σ)
theorem pe_makeV (M : Mk X.K C f) (F : FnOk X.prog X.w X.K X.mg X.base CX k f fd ps sp) (hr : Room (k + 1) X.A) (hN : X.N[i]? = some x) (hv : Vis X.env.scope x)
    (hb : Binds X.K fd ps ds) (hd : Vals dvs ds) (hx : ∀ σ, PassesAt CX X σ (E σ)) (ha : PA X (e :: es) t) (hdb : (x == ("__debug__" : Str)) = false := by decide) (hcd : (x == ("__classdict__" : Str)) = false := by decide)
    (he : starEach (e :: es) X.env = (false, eval e X.env) :: starEach es X.env := by rfl) (hpl : (backTo pos (starEach es X.env)).any (·.1) = false := by rfl) :
    PE X (.Call (.Name x p) (e :: es) [] pos) (tMakeV i C sp dvs E t) := by
  refine ⟨fun pins s0 σ H0 Q I0 h => ?_⟩
  obtain ⟨hs, h⟩ := h
  refine wpAny_Call_Name_kw (thn ((pe_var (pos := p) (i := i) hN hv hdb hcd).run pins s0 σ H0 (fun v H1 => v = .ref C ∧ H1 = H0) I0 ⟨.ref C, hs, rfl, rfl⟩) fun u s1 ⟨v, H1, I1, r1, ev, eH⟩ => ?_)
  subst ev
  rw [eH] at I1
  cases r1
  refine PySem.W.callWith_K (h₀ := X.base) I1.ok.mod.kin M.kp (thn (ha.run pos pins s1 σ H0 _ I1 h) ?_) he hpl
  intro us s z
  obtain ⟨vs, H, I, r, q⟩ := z
  refine ⟨I.kIn, ?_⟩
  have new : ∀ n, s.heap.objs.size ≤ n → H n = none := fun n hn => I.hok.fresh hn
  have hq := q (s.heap.objs.size + 1) s.heap.objs.size (new _ (Nat.le_succ _)) (new _ (Nat.le_refl _)) (Nat.ne_of_lt (Nat.lt_succ_self _))
  have J := Inv.made (C := C) I
  have rr : Vals (V.ref (s.heap.objs.size + 1) :: (vs ++ dvs)) (Value.ref (s.heap.objs.size + 1) :: (us ++ ds)) := .cons rfl (r.append hd)
  have hl : ((Value.ref (s.heap.objs.size + 1) :: us) ++ ds).length = ps.length := (F.len _ _ _ _ hq ▸ rr.length).symm
  refine wpAny_call (make_map (f := f) I.kIn M.makes M.init (beq_iff_eq.mp M.fn) (codeAny_mono
    (F.run _ X.stack _ _ ⟨Value.ref (s.heap.objs.size + 1) :: us, []⟩ _ _ _ (E σ) (hr.make C us []) (J.env0.make C us []) (hb _ (Value.ref (s.heap.objs.size + 1) :: us) J.kIn hl) rr hq) ?_))
  intro res s' z
  match res, z with
  | .error er, z => exact hx σ pins _ _ er s' J z
  | .ok (.ret u), z =>
    obtain ⟨v, H', J', rv, z⟩ := J.after z
    obtain ⟨ev, z⟩ := z
    subst ev
    exact ⟨rv, V.ref (s.heap.objs.size + 1), H', J', rfl, z⟩
end
end My
/-! texts cut at one sign; one sign ahead; numbers of one or two digits -/
namespace My
open PySem PySem.Spec PyProof.Rows L2
abbrev dot : Str := PySem.Str.ofString "."
theorem pre1 (c d : Nat) (r : List Nat) : TL.pre [c] (d :: r) = (d == c) := by
  show ([d] == [c]) = (d == c)
  cases h : d == c with
  | true => rw [eq_of_beq h]; exact beq_self_eq_true _
  | false => exact beq_eq_false_iff_ne.mpr fun q => by cases q; rw [beq_self_eq_true] at h; cases h
theorem spl1_cons (c d : Nat) (acc r : List Nat) : TL.spl [c] 0 acc (d :: r) = if d = c then acc :: TL.spl [c] 0 [] r else TL.spl [c] 0 (acc ++ [d]) r := by
  by_cases h : d = c
  · rw [if_pos h, TL.spl_hit (by rw [pre1, h]; exact beq_self_eq_true _)]
    rfl
  · rw [if_neg h, TL.spl_miss (by rw [pre1]; exact beq_eq_false_iff_ne.mpr h)]
theorem spl1_ne (c : Nat) : ∀ (l acc : List Nat), TL.spl [c] 0 acc l ≠ []
  | [], acc => by rw [TL.spl_nil]; exact List.cons_ne_nil _ _
  | d :: r, acc => by
    rw [spl1_cons]
    by_cases h : d = c
    · rw [if_pos h]; exact List.cons_ne_nil _ _
    · rw [if_neg h]; exact spl1_ne c r _
theorem spl1_free (c : Nat) : ∀ (l acc : List Nat), c ∉ acc → ∀ p ∈ TL.spl [c] 0 acc l, c ∉ p
  | [], acc, h, p, hp => by
    rw [TL.spl_nil, List.mem_singleton] at hp
    rw [hp]; exact h
  | d :: r, acc, h, p, hp => by
    rw [spl1_cons] at hp
    by_cases e : d = c
    · rw [if_pos e] at hp
      rcases List.mem_cons.mp hp with hp | hp
      · rw [hp]; exact h
      · exact spl1_free c r [] (fun q => nomatch q) p hp
    · rw [if_neg e] at hp
      refine spl1_free c r (acc ++ [d]) (fun q => ?_) p hp
      rcases List.mem_append.mp q with q | q
      · exact h q
      · exact e (List.mem_singleton.mp q).symm
/-- the parts, one behind the other, with the sign between -/
def glue (c : Nat) : List (List Nat) → List Nat
  | [] => []
  | [p] => p
  | p :: q :: r => p ++ (c :: glue c (q :: r))
theorem glue_cons (c : Nat) (p : List Nat) {ps : List (List Nat)} (h : ps ≠ []) : glue c (p :: ps) = p ++ (c :: glue c ps) := by
  cases ps with
  | nil => exact absurd rfl h
  | cons q r => rfl
theorem spl1_glue (c : Nat) : ∀ (l acc : List Nat), glue c (TL.spl [c] 0 acc l) = acc ++ l
  | [], acc => by rw [TL.spl_nil, List.append_nil]; rfl
  | d :: r, acc => by
    rw [spl1_cons]
    by_cases h : d = c
    · rw [if_pos h, glue_cons c acc (spl1_ne c r []), spl1_glue c r [], h]
      rfl
    · rw [if_neg h, spl1_glue c r, List.append_assoc]
      rfl
theorem spl1_of (c : Nat) : ∀ (ps : List (List Nat)) (acc : List Nat) (p : List Nat), c ∉ p → (∀ q ∈ ps, c ∉ q) → TL.spl [c] 0 acc (glue c (p :: ps)) = (acc ++ p) :: ps
  | [], acc, p, hp, _ => by
    show TL.spl [c] 0 acc p = _
    rw [TL.spl_last1 hp]
  | q :: r, acc, p, hp, h => by
    rw [glue_cons c p (List.cons_ne_nil _ _)]
    have := TL.spl_part1 (s := c) (S := []) (p := p) (rest := glue c (q :: r)) (acc := acc) hp
    rw [show p ++ (c :: [] ++ glue c (q :: r)) = p ++ (c :: glue c (q :: r)) from rfl] at this
    rw [this, spl1_of c r [] q (h q (List.mem_cons_self ..)) fun z hz => h z (List.mem_cons_of_mem _ hz), List.nil_append]
theorem tl_inj {a b : Str} (h : TL.tl a = TL.tl b) : a = b := str_ext h
theorem split_tl (x : Str) {y : Str} {c : Nat} (hy : TL.tl y = [c]) (hk : y.cps.all (· < 256) = true) : (Txt.split x y).map TL.tl = TL.spl [c] 0 [] (TL.tl x) := by
  rw [TL.split_spl x y (by rw [hy]; exact List.cons_ne_nil _ _) (TL.kind_ok hk), hy]
/-- a text of three parts -/
theorem split_3 {x y a b d : Str} {c : Nat} (hy : TL.tl y = [c]) (hk : y.cps.all (· < 256) = true) (e : Txt.split x y = [a, b, d]) : x = a ++ y ++ b ++ y ++ d := by
  have h := split_tl x hy hk
  rw [e] at h
  refine tl_inj ?_
  have g := spl1_glue c (TL.tl x) []
  rw [← h, List.nil_append] at g
  rw [← g]
  rw [TL.tl_append, TL.tl_append, TL.tl_append, TL.tl_append, hy]
  show TL.tl a ++ (c :: (TL.tl b ++ (c :: TL.tl d))) = _
  simp
theorem split_parts {x y : Str} {c : Nat} (hy : TL.tl y = [c]) (hk : y.cps.all (· < 256) = true) : ∀ p ∈ Txt.split x y, c ∉ TL.tl p := fun p hp => by
  have h := split_tl x hy hk
  exact spl1_free c (TL.tl x) [] (fun q => nomatch q) _ (by rw [← h]; exact List.mem_map_of_mem hp)
theorem split_of3 {y a b d : Str} {c : Nat} (hy : TL.tl y = [c]) (hk : y.cps.all (· < 256) = true) (ha : c ∉ TL.tl a) (hb : c ∉ TL.tl b) (hd : c ∉ TL.tl d) : Txt.split (a ++ y ++ b ++ y ++ d) y = [a, b, d] := by
  have h := split_tl (a ++ y ++ b ++ y ++ d) hy hk
  have e : TL.tl (a ++ y ++ b ++ y ++ d) = glue c (TL.tl a :: [TL.tl b, TL.tl d]) := by
    rw [TL.tl_append, TL.tl_append, TL.tl_append, TL.tl_append, hy]
    show _ = TL.tl a ++ (c :: (TL.tl b ++ (c :: TL.tl d)))
    simp
  rw [e, spl1_of c _ [] _ ha (fun q hq => by
    rcases List.mem_cons.mp hq with q1 | q1
    · rw [q1]; exact hb
    · rw [List.mem_singleton.mp q1]; exact hd), List.nil_append] at h
  refine List.map_inj_right (f := TL.tl) (fun a b => tl_inj) |>.mp h
/-! one sign ahead -/
def hd1 (x : Str) (c : Nat) : Bool := match TL.tl x with | [] => false | d :: _ => d == c
def tl1 (x : Str) : Str := ⟨((TL.tl x).drop 1).toArray⟩
theorem sub_hd {x y : Str} {c : Nat} (hy : TL.tl y = [c]) : Builtin.Str.subAt x y 0 = hd1 x c := by
  unfold Builtin.Str.subAt hd1
  obtain ⟨⟨l⟩⟩ := x
  obtain ⟨⟨m⟩⟩ := y
  have hm : m = [c] := hy
  subst hm
  cases l with
  | nil => rfl
  | cons d r =>
    show ((⟨d :: r⟩ : Array Nat).extract 0 (0 + 1) == (⟨[c]⟩ : Array Nat)) = (d == c)
    have e : (⟨d :: r⟩ : Array Nat).extract 0 (0 + 1) = ⟨[d]⟩ := by simp
    rw [e]
    cases h : d == c with
    | true => rw [eq_of_beq h]; exact beq_self_eq_true _
    | false =>
      refine beq_eq_false_iff_ne.mpr fun q => ?_
      have q2 : [d] = [c] := congrArg Array.toList q
      have q3 : d = c := by cases q2; rfl
      rw [q3, beq_self_eq_true] at h
      cases h
theorem starts1 {x y : Str} {c : Nat} (hy : TL.tl y = [c]) : Txt.startswith x y = hd1 x c := by
  have hl : y.length = 1 := by rw [TL.len_tl, hy]; rfl
  unfold Txt.startswith
  rw [sub_hd hy, hl]
  cases h : TL.tl x with
  | nil => 
    have : hd1 x c = false := by unfold hd1; rw [h]
    rw [this, Bool.and_false]
  | cons d r =>
    have : x.length = r.length + 1 := by rw [TL.len_tl, h]; rfl
    rw [this, decide_eq_true (by omega), Bool.true_and]
theorem prefix1 {x y : Str} {c : Nat} (hy : TL.tl y = [c]) : Txt.removeprefix x y = if hd1 x c = true then tl1 x else x := by
  have hl : y.length = 1 := by rw [TL.len_tl, hy]; rfl
  unfold Txt.removeprefix
  rw [sub_hd hy, hl]
  cases h : hd1 x c with
  | false => rfl
  | true =>
    have hx : 0 < x.length := by
      rw [TL.len_tl]
      unfold hd1 at h
      cases e : TL.tl x with
      | nil => rw [e] at h; cases h
      | cons d r => exact Nat.succ_pos _
    show (if (x.length - 1 == x.length) = true then x else Builtin.Str.strSub x 1 x.length) = tl1 x
    rw [if_neg (by simp; omega)]
    refine tl_inj ?_
    rw [TL.tl_strSub_end]
    rfl
/-! numbers of one or two digits -/
def digB (x : Str) : Bool := x.cps.toList.all fun c => decide (48 ≤ c ∧ c ≤ 57)
def numB (x : Str) : Bool := digB x && (x.length == 1 || (x.length == 2 && !hd1 x 48))
theorem num1 : ∀ c, c < 10 → (⟨#[48 + c]⟩ : Str) = PySem.Str.ofString (toString ((c : Nat) : Int)) := by decide +kernel
theorem num2 : ∀ c, c < 10 → ∀ d, d < 10 → c ≠ 0 → (⟨#[48 + c, 48 + d]⟩ : Str) = PySem.Str.ofString (toString ((10 * c + d : Nat) : Int)) := by decide +kernel
theorem num_of {x : Str} (h : numB x = true) : ∃ n : Nat, n ≤ 99 ∧ x = PySem.Str.ofString (toString ((n : Nat) : Int)) := by
  unfold numB at h
  rw [Bool.and_eq_true] at h
  obtain ⟨hd, h⟩ := h
  have dig : ∀ c ∈ x.cps.toList, 48 ≤ c ∧ c ≤ 57 := fun c hc => of_decide_eq_true (List.all_eq_true.mp hd c hc)
  have hx : x = ⟨x.cps.toList.toArray⟩ := by obtain ⟨⟨l⟩⟩ := x; rfl
  have hl : x.length = x.cps.toList.length := (len_cps x).symm
  generalize x.cps.toList = l at dig hx hl
  rw [hl] at h
  match l, h with
  | [c], _ =>
    obtain ⟨h1, h2⟩ := dig c (List.mem_cons_self ..)
    refine ⟨c - 48, by omega, ?_⟩
    rw [hx, ← num1 (c - 48) (by omega), show 48 + (c - 48) = c by omega]
  | [c, d], h =>
    obtain ⟨h1, h2⟩ := dig c (List.mem_cons_self ..)
    obtain ⟨h3, h4⟩ := dig d (List.mem_cons_of_mem _ (List.mem_cons_self ..))
    have hc : c ≠ 48 := by
      intro e
      have h' : (!hd1 x 48) = true := h
      rw [hx] at h'
      have h2 : (!(c == 48)) = true := h'
      rw [e] at h2
      cases h2
    refine ⟨10 * (c - 48) + (d - 48), by omega, ?_⟩
    rw [hx, ← num2 (c - 48) (by omega) (d - 48) (by omega) (by omega), show 48 + (c - 48) = c by omega, show 48 + (d - 48) = d by omega]
  | [], h => cases h
  | _ :: _ :: _ :: _, h =>
    rw [Bool.or_eq_true, Bool.and_eq_true] at h
    rcases h with h | ⟨h, _⟩ <;> · simp at h
theorem numB_of : ∀ n, n < 100 → numB (PySem.Str.ofString (toString ((n : Nat) : Int))) = true := by decide +kernel
theorem int_of {n : Nat} (h : n ≤ 99) : PySem.intText? (PySem.Str.ofString (toString ((n : Nat) : Int))) = some (n : Int) := by
  have : ∀ n, n < 100 → PySem.intText? (PySem.Str.ofString (toString ((n : Nat) : Int))) = some ((n : Nat) : Int) := by decide +kernel
  exact this n (by omega)
/-- a text, once or not at all -/
def rMul01 : R2 := fun x y H Q => ∃ (z : Str) (k : Int), x = .str z ∧ y = .int k ∧ (k = 0 ∨ k = 1) ∧ Q (.str (if k = 1 then z else Str.empty)) H
theorem op_mul01 {X : Cx} : OpR X (binaryOp .Mult) rMul01 := by
  intro pins s σ H x y v u Q I rx ry h
  obtain ⟨z, k, rfl, rfl, hk, q⟩ := h
  obtain ⟨t, rfl⟩ := rx
  obtain ⟨t', rfl⟩ := ry
  rcases hk with rfl | rfl
  · exact PySem.P.mul_str_none (by decide) (by decide) ⟨.str Str.empty, H, I.tok _, ⟨_, rfl⟩, q⟩
  · refine PySem.P.mul_str (by decide) (fun _ h => by simp at h) (fun _ h => by simp at h) ?_
    exact ⟨.str z, H, I, ⟨t, rfl⟩, q⟩
end My

namespace My
open PySem PySem.Spec PyProof.Rows L2

def topS (i : Nat) : Stmt := PySem.Challenge.pw_growntexts_k04_texts_of_settings.main.body.getD i (.Pass ⟨0, 0, 0, 0⟩)
abbrev s_is_integer : Stmt := topS 2
abbrev N_is_integer : List Str := ["value"]
theorem sc_is_integer : FnScope N_is_integer ["value"] (defScope s_is_integer) :=
  ⟨rfl, rfl, rfl, by decide +kernel, rfl, by decide +kernel, by decide +kernel⟩
abbrev s_is_number : Stmt := topS 3
abbrev N_is_number : List Str := ["value"]
theorem sc_is_number : FnScope N_is_number ["value"] (defScope s_is_number) :=
  ⟨rfl, rfl, rfl, by decide +kernel, rfl, by decide +kernel, by decide +kernel⟩
abbrev s_is_word : Stmt := topS 4
abbrev N_is_word : List Str := ["value", "sign"]
theorem sc_is_word : FnScope N_is_word ["value"] (defScope s_is_word) :=
  ⟨rfl, rfl, rfl, by decide +kernel, rfl, by decide +kernel, by decide +kernel⟩
abbrev s_is_number_text : Stmt := topS 5
abbrev N_is_number_text : List Str := ["word", "sign"]
theorem sc_is_number_text : FnScope N_is_number_text ["word"] (defScope s_is_number_text) :=
  ⟨rfl, rfl, rfl, by decide +kernel, rfl, by decide +kernel, by decide +kernel⟩
abbrev s_first_wrong : Stmt := topS 12
abbrev N_first_wrong : List Str := ["source", "head", "tail", "is_turned", "has_source"]
theorem sc_first_wrong : FnScope N_first_wrong ["source", "head", "tail", "is_turned"] (defScope s_first_wrong) :=
  ⟨rfl, rfl, rfl, by decide +kernel, rfl, by decide +kernel, by decide +kernel⟩
abbrev s_InvalidText_init : Stmt := inClass (topS 9) 0
abbrev N_InvalidText_init : List Str := ["self", "at"]
theorem sc_InvalidText_init : FnScope N_InvalidText_init ["self", "at"] (defScope s_InvalidText_init) :=
  ⟨rfl, rfl, rfl, by decide +kernel, rfl, by decide +kernel, by decide +kernel⟩
abbrev s_Setting_init : Stmt := inClass (topS 11) 0
abbrev N_Setting_init : List Str := ["self", "source", "head", "tail", "is_turned", "word"]
theorem sc_Setting_init : FnScope N_Setting_init ["self", "source", "head", "tail", "is_turned"] (defScope s_Setting_init) :=
  ⟨rfl, rfl, rfl, by decide +kernel, rfl, by decide +kernel, by decide +kernel⟩
abbrev s_Setting_read : Stmt := inClass (topS 11) 2
abbrev N_Setting_read : List Str := ["cls", "text", "words", "head", "source", "tail", "number"]
theorem sc_Setting_read : FnScope N_Setting_read ["cls", "text"] (defScope s_Setting_read) :=
  ⟨rfl, rfl, rfl, by decide +kernel, rfl, by decide +kernel, by decide +kernel⟩
abbrev s_Setting_eq : Stmt := inClass (topS 11) 3
abbrev N_Setting_eq : List Str := ["self", "other"]
theorem sc_Setting_eq : FnScope N_Setting_eq ["self", "other"] (defScope s_Setting_eq) :=
  ⟨rfl, rfl, rfl, by decide +kernel, rfl, by decide +kernel, by decide +kernel⟩
abbrev s_Setting_str : Stmt := inClass (topS 11) 4
abbrev N_Setting_str : List Str := ["self"]
theorem sc_Setting_str : FnScope N_Setting_str ["self"] (defScope s_Setting_str) :=
  ⟨rfl, rfl, rfl, by decide +kernel, rfl, by decide +kernel, by decide +kernel⟩
abbrev s_seed : Stmt := topS 14
abbrev N_seed : List Str := ["_law_script", "_law_k", "_law_cell", "_law_great"]
theorem sc_seed : FnScope N_seed ["_law_script", "_law_k"] (defScope s_seed) :=
  ⟨rfl, rfl, rfl, by decide +kernel, rfl, by decide +kernel, by decide +kernel⟩
abbrev s_choose : Stmt := topS 15
abbrev N_choose : List Str := ["_law_box", "_law_many", "_law_digit", "_law_raw"]
theorem sc_choose : FnScope N_choose ["_law_box", "_law_many"] (defScope s_choose) :=
  ⟨rfl, rfl, rfl, by decide +kernel, rfl, by decide +kernel, by decide +kernel⟩
abbrev s_one_of : Stmt := topS 16
abbrev N_one_of : List Str := ["_law_box", "_law_some"]
theorem sc_one_of : FnScope N_one_of ["_law_box", "_law_some"] (defScope s_one_of) :=
  ⟨rfl, rfl, rfl, by decide +kernel, rfl, by decide +kernel, by decide +kernel⟩
abbrev s_told : Stmt := topS 17
abbrev N_told : List Str := ["_law_box", "_law_marks", "_law_most", "_law_turn"]
theorem sc_told : FnScope N_told ["_law_box", "_law_marks", "_law_most"] (defScope s_told) :=
  ⟨rfl, rfl, rfl, by decide +kernel, rfl, by decide +kernel, by decide +kernel⟩
abbrev s_set_text : Stmt := topS 18
abbrev N_set_text : List Str := ["_law_one", "_law_mark"]
theorem sc_set_text : FnScope N_set_text ["_law_one"] (defScope s_set_text) :=
  ⟨rfl, rfl, rfl, by decide +kernel, rfl, by decide +kernel, by decide +kernel⟩
abbrev s_free : Stmt := topS 19
abbrev N_free : List Str := ["_law_box", "_law_marks", "_law_cell", "_law_ahead"]
theorem sc_free : FnScope N_free ["_law_box", "_law_marks"] (defScope s_free) :=
  ⟨rfl, rfl, rfl, by decide +kernel, rfl, by decide +kernel, by decide +kernel⟩
abbrev s_set_of : Stmt := topS 20
abbrev N_set_of : List Str := ["_law_one"]
theorem sc_set_of : FnScope N_set_of ["_law_one"] (defScope s_set_of) :=
  ⟨rfl, rfl, rfl, by decide +kernel, rfl, by decide +kernel, by decide +kernel⟩
abbrev s_is_plain : Stmt := topS 21
abbrev N_is_plain : List Str := ["_law_value", "_law_sign"]
theorem sc_is_plain : FnScope N_is_plain ["_law_value"] (defScope s_is_plain) :=
  ⟨rfl, rfl, rfl, by decide +kernel, rfl, by decide +kernel, by decide +kernel⟩
abbrev s_lis_number : Stmt := topS 22
abbrev N_lis_number : List Str := ["_law_word", "_law_sign"]
theorem sc_lis_number : FnScope N_lis_number ["_law_word"] (defScope s_lis_number) :=
  ⟨rfl, rfl, rfl, by decide +kernel, rfl, by decide +kernel, by decide +kernel⟩
abbrev s_is_good : Stmt := topS 23
abbrev N_is_good : List Str := ["_law_given", "_law_words"]
theorem sc_is_good : FnScope N_is_good ["_law_given"] (defScope s_is_good) :=
  ⟨rfl, rfl, rfl, by decide +kernel, rfl, by decide +kernel, by decide +kernel⟩
abbrev s_heard : Stmt := topS 24
abbrev N_heard : List Str := ["_law_given", "_law_found", "e"]
theorem sc_heard : FnScope N_heard ["_law_given"] (defScope s_heard) :=
  ⟨rfl, rfl, rfl, by decide +kernel, rfl, by decide +kernel, by decide +kernel⟩
abbrev s_law : Stmt := topS 25
abbrev N_law : List Str := ["_law_script", "_law_k", "_law_box", "_law_turn", "_law_one", "_law_given", "_law_more", "_law_at", "_law_sign", "_law_bad", "_law_part"]
theorem sc_law : FnScope N_law ["_law_script"] (defScope s_law) :=
  ⟨rfl, rfl, rfl, by decide +kernel, rfl, by decide +kernel, by decide +kernel⟩
structure Ad where
  (f_is_integer f_is_number f_is_word f_is_number_text f_first_wrong f_InvalidText_init f_Setting_init f_Setting_read f_Setting_eq f_Setting_str f_seed f_choose f_one_of f_told f_set_text f_free f_set_of f_is_plain f_lis_number f_is_good f_heard f_law : Addr)
  (d_is_integer d_is_number d_is_word d_is_number_text d_first_wrong d_InvalidText_init d_Setting_init d_Setting_read d_Setting_eq d_Setting_str d_seed d_choose d_one_of d_told d_set_text d_free d_set_of d_is_plain d_lis_number d_is_good d_heard d_law : FuncData)
  (c_GrowError c_InvalidText c_InvalidSetting c_Setting : Addr)
structure Txt (K : PySem.W.Frag) (mg : Str → Option Value) (A : Ad) : Prop where
  g_is_integer : mg "is_integer" = some (.ref A.f_is_integer)
  k_is_integer : PySem.W.keepIn K (.ref A.f_is_integer) = true
  F_is_integer : Fun K "is_integer" "is_integer" s_is_integer A.f_is_integer A.d_is_integer
  b_is_integer : Binds K A.d_is_integer ["value"] []
  g_is_number : mg "is_number" = some (.ref A.f_is_number)
  k_is_number : PySem.W.keepIn K (.ref A.f_is_number) = true
  F_is_number : Fun K "is_number" "is_number" s_is_number A.f_is_number A.d_is_number
  b_is_number : Binds K A.d_is_number ["value"] []
  g_is_word : mg "is_word" = some (.ref A.f_is_word)
  k_is_word : PySem.W.keepIn K (.ref A.f_is_word) = true
  F_is_word : Fun K "is_word" "is_word" s_is_word A.f_is_word A.d_is_word
  b_is_word : Binds K A.d_is_word ["value"] []
  g_is_number_text : mg "is_number_text" = some (.ref A.f_is_number_text)
  k_is_number_text : PySem.W.keepIn K (.ref A.f_is_number_text) = true
  F_is_number_text : Fun K "is_number_text" "is_number_text" s_is_number_text A.f_is_number_text A.d_is_number_text
  b_is_number_text : Binds K A.d_is_number_text ["word"] []
  g_first_wrong : mg "first_wrong" = some (.ref A.f_first_wrong)
  k_first_wrong : PySem.W.keepIn K (.ref A.f_first_wrong) = true
  F_first_wrong : Fun K "first_wrong" "first_wrong" s_first_wrong A.f_first_wrong A.d_first_wrong
  b_first_wrong : Binds K A.d_first_wrong ["source", "head", "tail", "is_turned"] []
  k_InvalidText_init : PySem.W.keepIn K (.ref A.f_InvalidText_init) = true
  F_InvalidText_init : Fun K "__init__" "InvalidText.__init__" s_InvalidText_init A.f_InvalidText_init A.d_InvalidText_init
  b_InvalidText_init : Binds K A.d_InvalidText_init ["self", "at"] []
  F_Setting_init : FunD K "__init__" "Setting.__init__" (defArgs s_Setting_init) (defBody s_Setting_init) (defScope s_Setting_init) [.str Str.empty, .str Str.empty, .bl false] [] A.f_Setting_init A.d_Setting_init
  b_Setting_init : Binds K A.d_Setting_init ["self", "source", "head", "tail", "is_turned"] []
  k_Setting_read : PySem.W.keepIn K (.ref A.f_Setting_read) = true
  F_Setting_read : Fun K "read" "Setting.read" s_Setting_read A.f_Setting_read A.d_Setting_read
  b_Setting_read : Binds K A.d_Setting_read ["cls", "text"] []
  k_Setting_eq : PySem.W.keepIn K (.ref A.f_Setting_eq) = true
  F_Setting_eq : Fun K "__eq__" "Setting.__eq__" s_Setting_eq A.f_Setting_eq A.d_Setting_eq
  b_Setting_eq : Binds K A.d_Setting_eq ["self", "other"] []
  k_Setting_str : PySem.W.keepIn K (.ref A.f_Setting_str) = true
  F_Setting_str : Fun K "__str__" "Setting.__str__" s_Setting_str A.f_Setting_str A.d_Setting_str
  b_Setting_str : Binds K A.d_Setting_str ["self"] []
  g_seed : mg "_law_seed" = some (.ref A.f_seed)
  k_seed : PySem.W.keepIn K (.ref A.f_seed) = true
  F_seed : Fun K "_law_seed" "_law_seed" s_seed A.f_seed A.d_seed
  b_seed : Binds K A.d_seed ["_law_script", "_law_k"] []
  g_choose : mg "_law_choose" = some (.ref A.f_choose)
  k_choose : PySem.W.keepIn K (.ref A.f_choose) = true
  F_choose : Fun K "_law_choose" "_law_choose" s_choose A.f_choose A.d_choose
  b_choose : Binds K A.d_choose ["_law_box", "_law_many"] []
  g_one_of : mg "_law_one_of" = some (.ref A.f_one_of)
  k_one_of : PySem.W.keepIn K (.ref A.f_one_of) = true
  F_one_of : Fun K "_law_one_of" "_law_one_of" s_one_of A.f_one_of A.d_one_of
  b_one_of : Binds K A.d_one_of ["_law_box", "_law_some"] []
  g_told : mg "_law_told" = some (.ref A.f_told)
  k_told : PySem.W.keepIn K (.ref A.f_told) = true
  F_told : Fun K "_law_told" "_law_told" s_told A.f_told A.d_told
  b_told : Binds K A.d_told ["_law_box", "_law_marks", "_law_most"] []
  g_set_text : mg "_law_set_text" = some (.ref A.f_set_text)
  k_set_text : PySem.W.keepIn K (.ref A.f_set_text) = true
  F_set_text : Fun K "_law_set_text" "_law_set_text" s_set_text A.f_set_text A.d_set_text
  b_set_text : Binds K A.d_set_text ["_law_one"] []
  g_free : mg "_law_free" = some (.ref A.f_free)
  k_free : PySem.W.keepIn K (.ref A.f_free) = true
  F_free : Fun K "_law_free" "_law_free" s_free A.f_free A.d_free
  b_free : Binds K A.d_free ["_law_box", "_law_marks"] []
  g_set_of : mg "_law_set_of" = some (.ref A.f_set_of)
  k_set_of : PySem.W.keepIn K (.ref A.f_set_of) = true
  F_set_of : Fun K "_law_set_of" "_law_set_of" s_set_of A.f_set_of A.d_set_of
  b_set_of : Binds K A.d_set_of ["_law_one"] []
  g_is_plain : mg "_law_is_plain" = some (.ref A.f_is_plain)
  k_is_plain : PySem.W.keepIn K (.ref A.f_is_plain) = true
  F_is_plain : Fun K "_law_is_plain" "_law_is_plain" s_is_plain A.f_is_plain A.d_is_plain
  b_is_plain : Binds K A.d_is_plain ["_law_value"] []
  g_lis_number : mg "_law_is_number" = some (.ref A.f_lis_number)
  k_lis_number : PySem.W.keepIn K (.ref A.f_lis_number) = true
  F_lis_number : Fun K "_law_is_number" "_law_is_number" s_lis_number A.f_lis_number A.d_lis_number
  b_lis_number : Binds K A.d_lis_number ["_law_word"] []
  g_is_good : mg "_law_is_good" = some (.ref A.f_is_good)
  k_is_good : PySem.W.keepIn K (.ref A.f_is_good) = true
  F_is_good : Fun K "_law_is_good" "_law_is_good" s_is_good A.f_is_good A.d_is_good
  b_is_good : Binds K A.d_is_good ["_law_given"] []
  g_heard : mg "_law_heard" = some (.ref A.f_heard)
  k_heard : PySem.W.keepIn K (.ref A.f_heard) = true
  F_heard : Fun K "_law_heard" "_law_heard" s_heard A.f_heard A.d_heard
  b_heard : Binds K A.d_heard ["_law_given"] []
  g_law : mg "law" = some (.ref A.f_law)
  k_law : PySem.W.keepIn K (.ref A.f_law) = true
  F_law : Fun K "law" "law" s_law A.f_law A.d_law
  b_law : Binds K A.d_law ["_law_script"] []
  g_GrowError : mg "GrowError" = some (.ref A.c_GrowError)
  g_InvalidText : mg "InvalidText" = some (.ref A.c_InvalidText)
  o_InvalidText : OexC K A.c_InvalidText
  i_InvalidText : PySem.W.findIn K (.ref A.c_InvalidText) "__init__" = some (some (.ref A.f_InvalidText_init))
  t_InvalidText : PySem.W.typeIn K (.ref A.f_InvalidText_init) = some (.type "function")
  n_InvalidText : PySem.W.findIn K (.ref A.c_InvalidText) "at" = some none
  x_InvalidText : XfC K A.c_InvalidText
  e_InvalidText : ExcC K A.c_InvalidText
  s_InvalidText : PySem.W.exmOne K (.ref A.c_InvalidText) (.ref A.c_InvalidText) = some true
  g_InvalidSetting : mg "InvalidSetting" = some (.ref A.c_InvalidSetting)
  g_Setting : mg "Setting" = some (.ref A.c_Setting)
  cl_Setting : Cls K A.c_Setting
  m_Setting : Mk K A.c_Setting A.f_Setting_init
  n_Setting_source : NoAttr K A.c_Setting "source"
  n_Setting_head : NoAttr K A.c_Setting "head"
  n_Setting_tail : NoAttr K A.c_Setting "tail"
  n_Setting_is_turned : NoAttr K A.c_Setting "is_turned"
  is_InvalidText_GrowError : PySem.W.kitOne K (.ref A.c_InvalidText) (.ref A.c_GrowError) = some true
  is_InvalidText_InvalidSetting : PySem.W.kitOne K (.ref A.c_InvalidText) (.ref A.c_InvalidSetting) = some false
  mt_Setting_eq : Meth K A.c_Setting "__eq__" A.f_Setting_eq
  mt_Setting_str : Meth K A.c_Setting "__str__" A.f_Setting_str
  cm_Setting_read : ∃ p, ClX.CMet K A.c_Setting (.type "type") "read" p A.f_Setting_read
  cd_Setting_read : ClX.CRead K A.c_Setting (.type "type")
  r_ca : PySem.W.findIn K (.ref A.c_Setting) "__class__" = some (some (.builtin "object.__class__"))
  r_mo : PySem.W.mroIn K A.c_Setting (.type "object") = some true
  r_cn : PySem.W.specialIn K (.builtin "object.__class__") "__get__" = some (some (.builtin "getset_descriptor.__get__"))
  r_ct : PySem.W.takesIn K (.builtin "object.__class__") = some true
  r_ne : PySem.W.findIn K (.ref A.c_Setting) "__ne__" = some (some (.builtin "object.__ne__"))
  r_ic : PySem.W.isClsIn K A.c_Setting = true
  r_ik : PySem.W.typeIn K (.ref A.c_Setting) = some (.type "type")
  b3_Setting_init : ∃ ds, Vals [.str Str.empty, .bl false] ds ∧ Binds K A.d_Setting_init ["self", "source", "head", "tail", "is_turned"] ds
  z_all : mg "all" = none
  z_abs : mg "abs" = none
  z_bool : mg "bool" = none
  z_int : mg "int" = none
  z_isinstance : mg "isinstance" = none
  z_len : mg "len" = none
  z_list : mg "list" = none
  z_max : mg "max" = none
  z_min : mg "min" = none
  z_range : mg "range" = none
  z_repr : mg "repr" = none
  z_str : mg "str" = none

def spSeed (K : PySem.W.Frag) : Sp := fun vs H Q _ => ∃ (a : Addr) (ns : List Int) (k : Int), vs = [.ref a, .int k] ∧ SqL K H a (ns.map V.int) ∧ ns.length ≤ 63 ∧ 0 ≤ k ∧ k ≤ 1000 ∧
  ∀ (p : Addr) (g r : Int), H p = none → Q (.ref p) (upd H p (.lst [.int g, .int r]))
def spChoose : Sp := fun vs H Q _ => ∃ (b : Addr) (m : Int), vs = [.ref b, .int m] ∧ B2 H b ∧ 0 < m ∧ m < 100000 ∧
  ∀ (d : Int) (H' : Hp), Dr b H H' → 0 ≤ d → d < m → (∀ p, H' p = none → H p = none) → Q (.int d) H'
def spOne (K : PySem.W.Frag) : Sp := fun vs H Q _ => ∃ (b p : Addr) (xs : List V), vs = [.ref b, .ref p] ∧ B2 H b ∧ SqL K H p xs ∧ p ≠ b ∧ 0 < xs.length ∧ xs.length < 1000 ∧
  ∀ (v : V) (H' : Hp), Dr b H H' → v ∈ xs → Q v H'
def spTold : Sp := fun vs H Q _ => ∃ (b : Addr) (z : Str) (m : Int), vs = [.ref b, .str z, .int m] ∧ B2 H b ∧ 0 < z.length ∧ z.length < 1000 ∧ 0 ≤ m ∧ m < 1000 ∧
  ∀ (y : Str) (H' : Hp), Dr b H H' → (y.length : Int) ≤ m → (∀ c ∈ y.cps.toList, c ∈ z.cps.toList) → Q (.str y) H'

def spLaw (K : PySem.W.Frag) : Sp := fun vs H Q _ => ∃ (a : Addr) (ns : List Int), vs = [.ref a] ∧ SqL K H a (ns.map V.int) ∧ ns.length ≤ 63 ∧ ∀ H', Q (.bl true) H'
end My

namespace My
open PySem PySem.Spec PyProof.Rows L2

local macro_rules | `(tactic| walk_at "rd") => `(tactic| (repeat (first
  | (refine ⟨_, rfl, ?_⟩) | (refine ⟨_, _, rfl, rfl, ?_⟩) | (refine ⟨_, _, rfl, ?_⟩) | (refine ⟨rfl, ?_⟩) | (refine ⟨⟨_, rfl⟩, ?_⟩)
  | (refine ⟨.inl (by decide), ?_⟩) | (refine ⟨.inr (by decide), ?_⟩) | (refine ⟨⟨by decide, by decide⟩, ?_⟩) | (refine ⟨⟨by decide, by decide, by decide⟩, ?_⟩) | (refine ⟨by decide, ?_⟩)
  | (refine ⟨(by show (0 : Int) < _; decide), ?_⟩)
  | (refine ⟨le_line rfl, ?_⟩) | (refine .inl ⟨_, rfl, ?_⟩) | (refine ⟨_, _, _, _, rfl, rfl, SqL.of (by assumption), rfl, ?_⟩))))


def isInt (x : V) : Bool := match x with | .int _ => true | _ => false
def spInt : Sp := fun vs H Q _ => ∃ (x : V) (t : Tg), vs = [x] ∧ Av H x t ∧ Q (.bl (isInt x)) H
def spNum : Sp := fun vs H Q _ => ∃ (x : V) (t : Tg), vs = [x] ∧ Av H x t ∧ Q (.bl (isNum x)) H
def spWord : Sp := fun vs H Q _ => ∃ (x : V) (t : Tg), vs = [x] ∧ Av H x t ∧ ∀ H', Same H H' → Q (.bl (isWord x)) H'
/-- the name of the first argument of a setting that is wrong -/
def fw (s h t u : V) : Option Str :=
  if s ≠ .non ∧ isNum s = false then some (PySem.Str.ofString "source")
  else if isWord h = false then some (PySem.Str.ofString "head")
  else if isWord t = false ∨ (t ≠ .str Str.empty ∧ s = .non) then some (PySem.Str.ofString "tail")
  else if (¬ ∃ b, u = .bl b) ∨ (u = .bl true ∧ s = .non) then some (PySem.Str.ofString "is_turned")
  else none

section
theorem ok_is_integer {K : PySem.W.Frag} {mg : Str → Option Value} {A0 : Ad} {P : Program} {w : World} {base : Heap} (T : Txt K mg A0) : FnOk P w K mg base CX0 1 A0.f_is_integer A0.d_is_integer ["value"] (spInt) := by
  refine T.F_is_integer.ok sc_is_integer (fun vs H Q E h => ?_) (fun cdv A outer s H vs Q E hr h => ?_)
  · obtain ⟨x, t, rfl, av, kk⟩ := h
    rfl
  · obtain ⟨x, t, rfl, av, kk⟩ := h
    refine ⟨_, (pss_one (ps_ret (pe_and (pe_callB cr_isA (by rfl) T.z_isinstance (by decide +kernel) (pa_cons (pv 0) (pa_cons (pe_bltn (v := .ty "int") (by rfl) T.z_int (by decide +kernel) rfl) pa_nil))) (pe_one (pe_not (pe_callB cr_isA (by rfl) T.z_isinstance (by decide +kernel) (pa_cons (pv 0) (pa_cons (pe_bltn (v := .ty "bool") (by rfl) T.z_bool (by decide +kernel) rfl) pa_nil)))))))), ?_⟩
    cases av with
    | non => walk_at "rd"; exact ⟨_, _, _, rfl, .inl rfl, .non, _, rfl, kk⟩
    | bl b => 
      walk_at "rd"
      refine ⟨_, _, _, rfl, .inl rfl, .bl b, _, rfl, ?_⟩
      exact ⟨_, rfl, _, _, _, rfl, .inr (.inl rfl), .bl b, _, rfl, kk⟩
    | int i =>
      walk_at "rd"
      refine ⟨_, _, _, rfl, .inl rfl, .int i, _, rfl, ?_⟩
      exact ⟨_, rfl, _, _, _, rfl, .inr (.inl rfl), .int i, _, rfl, kk⟩
    | str z h => walk_at "rd"; exact ⟨_, _, _, rfl, .inl rfl, .str z h, _, rfl, kk⟩
    | lst e => walk_at "rd"; exact ⟨_, _, _, rfl, .inl rfl, .lst e, _, rfl, kk⟩
    | tup e => walk_at "rd"; exact ⟨_, _, _, rfl, .inl rfl, .tup e, _, rfl, kk⟩

theorem ok_is_number {K : PySem.W.Frag} {mg : Str → Option Value} {A0 : Ad} {P : Program} {w : World} {base : Heap} (T : Txt K mg A0) : FnOk P w K mg base CX0 2 A0.f_is_number A0.d_is_number ["value"] (spNum) := by
  have Gis_integer := ok_is_integer (P := P) (w := w) (base := base) T
  refine T.F_is_number.ok sc_is_number (fun vs H Q E h => ?_) (fun cdv A outer s H vs Q E hr h => ?_)
  · obtain ⟨x, t, rfl, av, kk⟩ := h
    rfl
  · obtain ⟨x, t, rfl, av, kk⟩ := h
    have hr_is_integer : Room 1 _ := hr.mono (by decide)
    refine ⟨_, (pss_one (ps_ret (pe_and (pe_call Gis_integer hr_is_integer rfl T.g_is_integer T.k_is_integer T.b_is_integer .nil pass0 (pa_cons (pv 0) pa_nil)) (pe_one (pe_cmpR op_ge (pv 0) pe_int (nomark _)))))), ?_⟩
    walk_at "rd"
    refine ⟨x, t, rfl, av, isInt x, rfl, ?_⟩
    cases av with
    | int i => exact ⟨_, rfl, _, _, rfl, rfl, kk⟩
    | non => exact kk
    | bl b => exact kk
    | str z h => exact kk
    | lst e => exact kk
    | tup e => exact kk

theorem ok_is_word {K : PySem.W.Frag} {mg : Str → Option Value} {A0 : Ad} {P : Program} {w : World} {base : Heap} (T : Txt K mg A0) : FnOk P w K mg base CX0 1 A0.f_is_word A0.d_is_word ["value"] (spWord) := by
  refine T.F_is_word.ok sc_is_word (fun vs H Q E h => ?_) (fun cdv A outer s H vs Q E hr h => ?_)
  · obtain ⟨x, t, rfl, av, kk⟩ := h
    rfl
  · obtain ⟨x, t, rfl, av, kk⟩ := h
    refine ⟨_, (pss_one (ps_ret (pe_and (pe_callB cr_isA (by rfl) T.z_isinstance (by decide +kernel) (pa_cons (pv 0) (pa_cons (pe_bltn (v := .ty "str") (by rfl) T.z_str (by decide +kernel) rfl) pa_nil))) (pe_one (pe_callB (cr_all rfl) (by rfl) T.z_all (by decide +kernel) (pa_cons (pe_lc (own := [("sign", 1)]) (g := gName 1) (tt := tYes) rfl sc_is_word.nd (pi_str (pv 0)) (blkOk_by (own := [("sign", 1)]) (N := N_is_word) (sc := defScope s_is_word) (by decide +kernel)) (fun _ _ _ _ _ => (pg_name (i := 1) sc_is_word.nd rfl (Or.inl rfl))) (fun _ _ _ _ _ => pts_nil) (fun _ _ _ _ _ => by exact (pe_chain op_le_str op_le_str pe_str (pv 1) pe_str))) pa_nil)))))), ?_⟩
    cases av with
    | non => walk_at "rd"; exact ⟨_, _, _, rfl, .inr (.inr (.inl rfl)), .non, _, rfl, kk _ (Same.refl _)⟩
    | bl b => walk_at "rd"; exact ⟨_, _, _, rfl, .inr (.inr (.inl rfl)), .bl b, _, rfl, kk _ (Same.refl _)⟩
    | int i => walk_at "rd"; exact ⟨_, _, _, rfl, .inr (.inr (.inl rfl)), .int i, _, rfl, kk _ (Same.refl _)⟩
    | lst e => walk_at "rd"; exact ⟨_, _, _, rfl, .inr (.inr (.inl rfl)), .lst e, _, rfl, kk _ (Same.refl _)⟩
    | tup e => walk_at "rd"; exact ⟨_, _, _, rfl, .inr (.inr (.inl rfl)), .tup e, _, rfl, kk _ (Same.refl _)⟩
    | str z hz =>
      walk_at "rd"
      refine ⟨_, _, _, rfl, .inr (.inr (.inl rfl)), .str z hz, _, rfl, ?_⟩
      refine ⟨_, rfl, z, rfl, fun D nD => ?_⟩
      have hzl : z.cps.toList.length = z.length := len_cps z
      refine lc_it walk_str (fun i H' => Same H H' ∧ H' D = some (.lst (((z.cps.toList.take i).map fun c => decide (97 ≤ c ∧ c ≤ 122)).map V.bl)))
        ⟨same_upd nD, upd_same⟩ (fun _ _ _ _ => trivial) (fun i x H1 H2 hi P1 Y1 => ?_) (fun H1 P1 => ?_)
      · obtain ⟨s1, eD⟩ := P1
        obtain ⟨rfl, c, ec, rfl⟩ := Y1
        have ec' : z.cps.toList[i]? = some c := by simpa using ec
        have fin : ∀ k : Bool, k = decide (97 ≤ c ∧ c ≤ 122) → ∃ acc, H2 D = some (.lst acc) ∧ acc.length < sizeLine ∧ (Same H (upd H2 D (.lst (acc ++ [.bl k]))) ∧
            (upd H2 D (.lst (acc ++ [.bl k]))) D = some (.lst (((z.cps.toList.take (i + 1)).map fun c => decide (97 ≤ c ∧ c ≤ 122)).map V.bl))) := by
          intro k ek
          refine ⟨_, eD, ?_, fun b o e => by rw [upd_ne (ne_of_none e nD)]; exact s1 _ _ e, ?_⟩
          · rw [List.length_map, List.length_map, List.length_take]
            exact Nat.lt_of_lt_of_le (show min i z.cps.toList.length < 1001 by omega) (le_lineN (by omega))
          · rw [upd_same, List.take_add_one, ec', List.map_append, List.map_append, ek]
            rfl
        refine ⟨rfl, ?_⟩
        refine ⟨_, rfl, _, _, rfl, rfl, _, rfl, ?_⟩
        rw [show (PySem.Str.ofString "a").cps.toList = [97] by decide +kernel, sign_le]
        refine ite2 (fun h1 => ?_) (fun h1 => ?_)
        · refine ⟨_, _, rfl, rfl, ?_⟩
          rw [show (PySem.Str.ofString "z").cps.toList = [122] by decide +kernel, sign_ge]
          have h1' : 97 ≤ c := of_decide_eq_true h1
          exact fin _ (by
            by_cases h2 : c ≤ 122
            · rw [decide_eq_true h2, decide_eq_true ⟨h1', h2⟩]
            · rw [decide_eq_false h2, decide_eq_false (fun z => h2 z.2)])
        · have h1' : ¬ 97 ≤ c := fun q => h1 (decide_eq_true q)
          exact fin _ (decide_eq_false (fun q => h1' q.1)).symm
      · obtain ⟨s1, eD⟩ := P1
        rw [List.take_of_length_le (by rw [Array.length_toList]; exact Nat.le_refl _)] at eD
        refine ⟨D, _, rfl, SqL.of eD, ?_⟩
        rw [List.all_map]
        exact kk H1 s1

end
end My

namespace My
open PySem PySem.Spec PyProof.Rows L2

local macro_rules | `(tactic| walk_at "rd") => `(tactic| (repeat (first
  | (refine ⟨_, rfl, ?_⟩) | (refine ⟨_, _, rfl, rfl, ?_⟩) | (refine ⟨_, _, rfl, ?_⟩) | (refine ⟨rfl, ?_⟩) | (refine ⟨⟨_, rfl⟩, ?_⟩)
  | (refine ⟨.inl (by decide), ?_⟩) | (refine ⟨.inr (by decide), ?_⟩) | (refine ⟨⟨by decide, by decide⟩, ?_⟩) | (refine ⟨⟨by decide, by decide, by decide⟩, ?_⟩) | (refine ⟨by decide, ?_⟩)
  | (refine ⟨(by show (0 : Int) < _; decide), ?_⟩)
  | (refine ⟨le_line rfl, ?_⟩) | (refine .inl ⟨_, rfl, ?_⟩) | (refine ⟨_, _, _, _, rfl, rfl, SqL.of (by assumption), rfl, ?_⟩))))


theorem iteN {c A B : Prop} [Decidable c] (hc : ¬ c) (h : A) : if (!decide c) = true then A else B := by
  rw [decide_eq_false hc]
  exact iteT h
theorem fw_src {s h t u : V} (c0 : s ≠ .non) (c1 : isNum s = false) : fw s h t u = some (PySem.Str.ofString "source") := by unfold fw; rw [if_pos ⟨c0, c1⟩]
theorem fw_head {s h t u : V} (c0 : ¬ (s ≠ .non ∧ isNum s = false)) (c1 : isWord h = false) : fw s h t u = some (PySem.Str.ofString "head") := by unfold fw; rw [if_neg c0, if_pos c1]
theorem fw_tail {s h t u : V} (c0 : ¬ (s ≠ .non ∧ isNum s = false)) (c1 : isWord h = true) (c2 : isWord t = false ∨ (t ≠ .str Str.empty ∧ s = .non)) : fw s h t u = some (PySem.Str.ofString "tail") := by
  unfold fw; rw [if_neg c0, if_neg (by rw [c1]; decide), if_pos c2]
theorem fw_turn {s h t u : V} (c0 : ¬ (s ≠ .non ∧ isNum s = false)) (c1 : isWord h = true) (c2 : ¬ (isWord t = false ∨ (t ≠ .str Str.empty ∧ s = .non))) (c3 : (¬ ∃ b, u = .bl b) ∨ (u = .bl true ∧ s = .non)) : fw s h t u = some (PySem.Str.ofString "is_turned") := by
  unfold fw; rw [if_neg c0, if_neg (by rw [c1]; decide), if_neg c2, if_pos c3]
theorem fw_none {s h t u : V} (c0 : ¬ (s ≠ .non ∧ isNum s = false)) (c1 : isWord h = true) (c2 : ¬ (isWord t = false ∨ (t ≠ .str Str.empty ∧ s = .non))) (c3 : ¬ ((¬ ∃ b, u = .bl b) ∨ (u = .bl true ∧ s = .non))) : fw s h t u = none := by
  unfold fw; rw [if_neg c0, if_neg (by rw [c1]; decide), if_neg c2, if_neg c3]
def oV : Option Str → V
  | none => .non
  | some x => .str x
def spFW : Sp := fun vs H Q _ => ∃ (s h t u : V) (a b c e : Tg), vs = [s, h, t, u] ∧ Av H s a ∧ Av H h b ∧ Av H t c ∧ Av H u e ∧ ∀ H', Same H H' → Q (oV (fw s h t u)) H'

section
theorem ok_first_wrong {K : PySem.W.Frag} {mg : Str → Option Value} {A0 : Ad} {P : Program} {w : World} {base : Heap} (T : Txt K mg A0) : FnOk P w K mg base CX0 3 A0.f_first_wrong A0.d_first_wrong ["source", "head", "tail", "is_turned"] (spFW) := by
  have Gis_word := ok_is_word (P := P) (w := w) (base := base) T
  have Gis_number := ok_is_number (P := P) (w := w) (base := base) T
  refine T.F_first_wrong.ok sc_first_wrong (fun vs H Q E h => ?_) (fun cdv A outer s H vs Q E hr h => ?_)
  · obtain ⟨s, h, t, u, a, b, c, e, rfl, as, ah, at_, au, kk⟩ := h
    rfl
  · obtain ⟨s, h, t, u, a, b, c, e, rfl, as, ah, at_, au, kk⟩ := h
    have hr_is_word : Room 1 _ := hr.mono (by decide)
    have hr_is_number : Room 2 _ := hr.mono (by decide)
    refine ⟨_, (pss_cons (ps_set (i := 4) sc_first_wrong.nd rfl (Or.inl rfl) (pe_cmpR op_notN (pv 0) pe_non (nomark _)))
      (pss_cons (ps_if (PW.pt (pw_and (pt_val (pv 4)) (pw_and1 (pt_not (pt_val (pe_call Gis_number hr_is_number rfl T.g_is_number T.k_is_number T.b_is_number .nil pass0 (pa_cons (pv 0) pa_nil))))))) (pss_one (ps_ret pe_str)) pss_nil)
      (pss_cons (ps_if (pt_not (pt_val (pe_call Gis_word hr_is_word rfl T.g_is_word T.k_is_word T.b_is_word .nil pass0 (pa_cons (pv 1) pa_nil)))) (pss_one (ps_ret pe_str)) pss_nil)
      (pss_cons (ps_if (PW.pt (pw_or (pt_not (pt_val (pe_call Gis_word hr_is_word rfl T.g_is_word T.k_is_word T.b_is_word .nil pass0 (pa_cons (pv 2) pa_nil)))) (pw_or1 (PW.pt (pw_and (pt_cmpR op_ne (pv 2) pe_str (nomark _)) (pw_and1 (pt_not (pt_val (pv 4))))))))) (pss_one (ps_ret pe_str)) pss_nil)
      (pss_cons (ps_if (PW.pt (pw_or (pt_not (pt_val (pe_callB cr_isA (by rfl) T.z_isinstance (by decide +kernel) (pa_cons (pv 3) (pa_cons (pe_bltn (v := .ty "bool") (by rfl) T.z_bool (by decide +kernel) rfl) pa_nil))))) (pw_or1 (PW.pt (pw_and (pt_val (pv 3)) (pw_and1 (pt_not (pt_val (pv 4))))))))) (pss_one (ps_ret pe_str)) pss_nil)
      (pss_one (ps_ret pe_non))))))), ?_⟩
    have ret : ∀ (r : Option Str) (H' : Hp), fw s h t u = r → Same H H' → Q (oV r) H' := fun r H' e s1 => e ▸ kk H' s1
    refine ⟨_, rfl, rfl, ?_⟩
    by_cases c0 : s = .non
    · subst c0
      have c01 : ¬ (V.non ≠ .non ∧ isNum .non = false) := fun q => q.1 rfl
      refine ⟨_, rfl, _, rfl, ?_⟩
      refine ⟨_, rfl, h, b, rfl, ah, fun H1 s1 => ?_⟩
      refine ⟨_, rfl, ?_⟩
      cases e1 : isWord h with
      | false => exact ret _ _ (fw_head c01 e1) s1
      | true =>
        refine ⟨_, rfl, t, c, rfl, at_.same s1, fun H2 s2 => ?_⟩
        have s12 := s1.trans s2
        refine ⟨_, rfl, ?_⟩
        cases e2 : isWord t with
        | false => exact ret _ _ (fw_tail c01 e1 (.inl e2)) s12
        | true =>
          cases at_ with
          | str z hz =>
            refine ⟨_, rfl, rfl, _, rfl, ?_⟩
            by_cases ez : V.str z = V.str Str.empty
            · refine iteNS ez ?_
              have c2 : ¬ (isWord (V.str z) = false ∨ (V.str z ≠ .str Str.empty ∧ V.non = .non)) := fun q => q.elim (fun q => by rw [e2] at q; cases q) fun q => q.1 ez
              have au2 := au.same s12
              refine ⟨_, rfl, u, _, e, rfl, .inr (.inl rfl), au2, _, rfl, ?_⟩
              cases au with
              | bl y =>
                refine ⟨_, rfl, _, rfl, ?_⟩
                cases y with
                | false => exact ret _ _ (fw_none c01 e1 c2 (fun q => q.elim (fun q => q ⟨_, rfl⟩) fun q => by cases q.1)) s12
                | true =>
                  refine ⟨_, rfl, _, rfl, ?_⟩
                  exact ret _ _ (fw_turn c01 e1 c2 (.inr ⟨rfl, rfl⟩)) s12
              | non => exact ret _ _ (fw_turn c01 e1 c2 (.inl fun q => by obtain ⟨_, q⟩ := q; cases q)) s12
              | int i => exact ret _ _ (fw_turn c01 e1 c2 (.inl fun q => by obtain ⟨_, q⟩ := q; cases q)) s12
              | str z hz => exact ret _ _ (fw_turn c01 e1 c2 (.inl fun q => by obtain ⟨_, q⟩ := q; cases q)) s12
              | lst q => exact ret _ _ (fw_turn c01 e1 c2 (.inl fun q => by obtain ⟨_, q⟩ := q; cases q)) s12
              | tup q => exact ret _ _ (fw_turn c01 e1 c2 (.inl fun q => by obtain ⟨_, q⟩ := q; cases q)) s12
            · refine iteN ez ?_
              refine ⟨_, rfl, _, rfl, ?_⟩
              exact ret _ _ (fw_tail c01 e1 (.inr ⟨ez, rfl⟩)) s12
          | non => cases e2
          | bl y => cases e2
          | int y => cases e2
          | lst q => cases e2
          | tup q => cases e2
    · rw [decide_eq_false c0]
      refine ⟨_, rfl, _, rfl, ?_⟩
      refine ⟨_, rfl, s, a, rfl, as, ?_⟩
      refine ⟨_, rfl, ?_⟩
      cases e0 : isNum s with
      | false => exact ret _ _ (fw_src c0 e0) (Same.refl _)
      | true =>
        have c01 : ¬ (s ≠ .non ∧ isNum s = false) := fun q => by rw [e0] at q; cases q.2
        refine ⟨_, rfl, h, b, rfl, ah, fun H1 s1 => ?_⟩
        refine ⟨_, rfl, ?_⟩
        cases e1 : isWord h with
        | false => exact ret _ _ (fw_head c01 e1) s1
        | true =>
          refine ⟨_, rfl, t, c, rfl, at_.same s1, fun H2 s2 => ?_⟩
          have s12 := s1.trans s2
          refine ⟨_, rfl, ?_⟩
          cases e2 : isWord t with
          | false => exact ret _ _ (fw_tail c01 e1 (.inl e2)) s12
          | true =>
            cases at_ with
            | str z hz =>
              refine ⟨_, rfl, rfl, _, rfl, ?_⟩
              have c2 : ¬ (isWord (V.str z) = false ∨ (V.str z ≠ .str Str.empty ∧ s = .non)) := fun q => q.elim (fun q => by rw [e2] at q; cases q) fun q => c0 q.2
              by_cases ez : V.str z = V.str Str.empty
              · refine iteNS ez ?_
                have au2 := au.same s12
                refine ⟨_, rfl, u, _, e, rfl, .inr (.inl rfl), au2, _, rfl, ?_⟩
                cases au with
                | bl y =>
                  refine ⟨_, rfl, _, rfl, ?_⟩
                  cases y with
                  | false => exact ret _ _ (fw_none c01 e1 c2 (fun q => q.elim (fun q => q ⟨_, rfl⟩) fun q => by cases q.1)) s12
                  | true =>
                    refine ⟨_, rfl, _, rfl, ?_⟩
                    exact ret _ _ (fw_none c01 e1 c2 (fun q => q.elim (fun q => q ⟨_, rfl⟩) fun q => c0 q.2)) s12
                | non => exact ret _ _ (fw_turn c01 e1 c2 (.inl fun q => by obtain ⟨_, q⟩ := q; cases q)) s12
                | int i => exact ret _ _ (fw_turn c01 e1 c2 (.inl fun q => by obtain ⟨_, q⟩ := q; cases q)) s12
                | str z hz => exact ret _ _ (fw_turn c01 e1 c2 (.inl fun q => by obtain ⟨_, q⟩ := q; cases q)) s12
                | lst q => exact ret _ _ (fw_turn c01 e1 c2 (.inl fun q => by obtain ⟨_, q⟩ := q; cases q)) s12
                | tup q => exact ret _ _ (fw_turn c01 e1 c2 (.inl fun q => by obtain ⟨_, q⟩ := q; cases q)) s12
              · refine iteN ez ?_
                refine ⟨_, rfl, _, rfl, ?_⟩
                have au2 := au.same s12
                refine ⟨_, rfl, u, _, e, rfl, .inr (.inl rfl), au2, _, rfl, ?_⟩
                cases au with
                | bl y =>
                  refine ⟨_, rfl, _, rfl, ?_⟩
                  cases y with
                  | false => exact ret _ _ (fw_none c01 e1 c2 (fun q => q.elim (fun q => q ⟨_, rfl⟩) fun q => by cases q.1)) s12
                  | true =>
                    refine ⟨_, rfl, _, rfl, ?_⟩
                    exact ret _ _ (fw_none c01 e1 c2 (fun q => q.elim (fun q => q ⟨_, rfl⟩) fun q => c0 q.2)) s12
                | non => exact ret _ _ (fw_turn c01 e1 c2 (.inl fun q => by obtain ⟨_, q⟩ := q; cases q)) s12
                | int i => exact ret _ _ (fw_turn c01 e1 c2 (.inl fun q => by obtain ⟨_, q⟩ := q; cases q)) s12
                | str z hz => exact ret _ _ (fw_turn c01 e1 c2 (.inl fun q => by obtain ⟨_, q⟩ := q; cases q)) s12
                | lst q => exact ret _ _ (fw_turn c01 e1 c2 (.inl fun q => by obtain ⟨_, q⟩ := q; cases q)) s12
                | tup q => exact ret _ _ (fw_turn c01 e1 c2 (.inl fun q => by obtain ⟨_, q⟩ := q; cases q)) s12
            | non => cases e2
            | bl y => cases e2
            | int y => cases e2
            | lst q => cases e2
            | tup q => cases e2

end
end My

namespace My
open PySem PySem.Spec PyProof.Rows L2

local macro_rules | `(tactic| walk_at "rd") => `(tactic| (repeat (first
  | (refine ⟨_, rfl, ?_⟩) | (refine ⟨_, _, rfl, rfl, ?_⟩) | (refine ⟨_, _, rfl, ?_⟩) | (refine ⟨rfl, ?_⟩) | (refine ⟨⟨_, rfl⟩, ?_⟩)
  | (refine ⟨.inl (by decide), ?_⟩) | (refine ⟨.inr (by decide), ?_⟩) | (refine ⟨⟨by decide, by decide⟩, ?_⟩) | (refine ⟨⟨by decide, by decide, by decide⟩, ?_⟩) | (refine ⟨by decide, ?_⟩)
  | (refine ⟨(by show (0 : Int) < _; decide), ?_⟩)
  | (refine ⟨le_line rfl, ?_⟩) | (refine .inl ⟨_, rfl, ?_⟩) | (refine ⟨_, _, _, _, rfl, rfl, SqL.of (by assumption), rfl, ?_⟩))))


theorem len_putF (f : Str) (v : V) : ∀ l : List (Str × V), (putF f v l).length ≤ l.length + 1
  | [] => Nat.le_refl _
  | (g, u) :: r => by
    unfold putF
    split
    · exact Nat.le_succ _
    · exact Nat.succ_le_succ (len_putF f v r)
theorem few0 {f : Str} {v : V} {l : List (Str × V)} {n : Nat} (h : l.length ≤ n) : (putF f v l).length ≤ n + 1 := Nat.le_trans (len_putF f v l) (Nat.succ_le_succ h)
theorem few {l : List (Str × V)} {n : Nat} (h : l.length ≤ n) (k : n < 1000) : l.length < 1000 := Nat.lt_of_le_of_lt h k
def setF (s h t u : V) : List (Str × V) := putF "is_turned" u (putF "tail" t (putF "head" h (putF "source" s [])))

theorem word_sub {y z : Str} (h : ∀ c ∈ y.cps.toList, c ∈ z.cps.toList) (w : wordB z = true) : wordB y = true :=
  List.all_eq_true.mpr fun c hc => List.all_eq_true.mp w c (h c hc)
theorem word_abc {y : Str} (w : wordB y = true) : Abc y := fun c hc => by
  have := of_decide_eq_true (List.all_eq_true.mp w c hc)
  omega
theorem fw_ok0 {y : Str} (w : wordB y = true) : fw .non (.str y) (.str Str.empty) (.bl false) = none :=
  fw_none (fun q => q.1 rfl) w (fun q => q.elim (fun q => by cases q) fun q => q.1 rfl) fun q => q.elim (fun q => q ⟨_, rfl⟩) fun q => by cases q.1
theorem fw_ok1 {i : Int} {y x : Str} {k : Bool} (hi : 0 ≤ i) (w : wordB y = true) (w2 : wordB x = true) : fw (.int i) (.str y) (.str x) (.bl k) = none :=
  fw_none (fun q => by have z : decide (0 ≤ i) = false := q.2; rw [decide_eq_true hi] at z; cases z) w
    (fun q => q.elim (fun q => by have z : wordB x = false := q; rw [w2] at z; cases z) fun q => by cases q.2)
    fun q => q.elim (fun q => q ⟨_, rfl⟩) fun q => by cases q.2

/-- a setting -/
structure So where
  s : Option Int
  h : Str
  t : Str
  u : Bool
def So.sv (o : So) : V := match o.s with | none => .non | some i => .int i
def So.vs (o : So) : List V := [o.sv, .str o.h, .str o.t, .bl o.u]
def So.fs (o : So) : List (Str × V) := setF o.sv (.str o.h) (.str o.t) (.bl o.u)
structure So.ok (o : So) : Prop where
  wh : wordB o.h = true
  wt : wordB o.t = true
  lh : o.h.length ≤ 100
  lt : o.t.length ≤ 100
  lo : ∀ i, o.s = some i → 0 ≤ i ∧ i ≤ 99
  no : o.s = none → o.t = Str.empty ∧ o.u = false
@[irreducible] def So.over (o : So) (x : Str) : Str := match o.s with | none => o.h | some _ => o.h ++ (if o.u = true then revS x else x) ++ o.t
@[irreducible] def So.txt (o : So) : Str := match o.s with
  | none => o.h ++ "." ++ "-" ++ "." ++ o.t
  | some i => o.h ++ "." ++ ((if o.u = true then ("~" : Str) else Str.empty) ++ (toString i : String)) ++ "." ++ o.t
theorem So.fw_ok {o : So} (h : o.ok) : fw o.sv (.str o.h) (.str o.t) (.bl o.u) = none := by
  obtain ⟨s, hh, t, u⟩ := o
  cases s with
  | none =>
    obtain ⟨e1, e2⟩ := h.no rfl
    have e1 : t = Str.empty := e1
    have e2 : u = false := e2
    subst e1 e2
    exact fw_ok0 h.wh
  | some i => exact fw_ok1 (h.lo i rfl).1 h.wh h.wt
theorem So.av {o : So} {H : Hp} : ∃ t, Av H o.sv t := by
  obtain ⟨s, hh, t, u⟩ := o
  cases s with
  | none => exact ⟨_, .non⟩
  | some i => exact ⟨_, .int i⟩
theorem So.l1 (o : So) : o.fs.lookup ("source" : Str) = some o.sv := rfl
theorem So.l2 (o : So) : o.fs.lookup ("head" : Str) = some (V.str o.h) := rfl
theorem So.l3 (o : So) : o.fs.lookup ("tail" : Str) = some (V.str o.t) := rfl
theorem So.l4 (o : So) : o.fs.lookup ("is_turned" : Str) = some (V.bl o.u) := rfl
theorem So.l5 (o : So) : o.fs.lookup ("over" : Str) = none := rfl
/-- a setting at its place -/
def SetAt (C : Addr) (H : Hp) (a : Addr) (o : So) : Prop := ∃ dx, H a = some (.ins C dx o.fs)
def spInit0 (C : Addr) : Sp := fun vs H Q _ => ∃ (p dx : Addr) (o : So), vs = .ref p :: o.vs ∧ H p = some (.ins C dx []) ∧ o.ok ∧
  ∀ H' : Hp, (∀ b x, b ≠ p → H b = some x → H' b = some x) → SetAt C H' p o → Q .non H'
def So.same (o p : So) : Bool := decide (o.sv = p.sv) && (decide (o.h = p.h) && (decide (o.t = p.t) && decide (o.u = p.u)))
/-- the other side of an own == -/
inductive Oth (C : Addr) (H : Hp) (o : So) : V → Bool → Prop
  | set {b : Addr} {p : So} (e : SetAt C H b p) : Oth C H o (.ref b) (o.same p)
def spEq (C : Addr) : Sp := fun vs H Q _ => ∃ (a : Addr) (v : V) (o : So) (r : Bool), vs = [.ref a, v] ∧ SetAt C H a o ∧ Oth C H o v r ∧ Q (.bl r) H
def spStr (C : Addr) : Sp := fun vs H Q _ => ∃ (a : Addr) (o : So), vs = [.ref a] ∧ SetAt C H a o ∧ o.ok ∧ Q (.str o.txt) H
def spTxt : Sp := fun vs H Q _ => ∃ (l : Addr) (o : So), vs = [.ref l] ∧ H l = some (.tup o.vs) ∧ o.ok ∧ Q (.str o.txt) H
def spFree : Sp := fun vs H Q _ => ∃ (b : Addr) (z : Str), vs = [.ref b, .str z] ∧ B2 H b ∧ 0 < z.length ∧ z.length < 1000 ∧ wordB z = true ∧
  ∀ (p : Addr) (o : So) (H' : Hp), Dr b H H' → H' p = some (.tup o.vs) → o.ok → (o.h.length ≤ 3 ∧ o.t.length ≤ 3) → Q (.ref p) H'
def spSetOf (C : Addr) : Sp := fun vs H Q _ => ∃ (l : Addr) (o : So), vs = [.ref l] ∧ H l = some (.tup o.vs) ∧ o.ok ∧ ∀ (p : Addr) (H' : Hp), Same H H' → H p = none → SetAt C H' p o → Q (.ref p) H'
theorem kit_same {K : PySem.W.Frag} {C : Addr} : PySem.W.kitOne K (.ref C) (.ref C) = some true := by
  unfold PySem.W.kitOne
  rw [if_pos (by simp)]
theorem kit_ty {K : PySem.W.Frag} {C : Addr} {n : String} {r : Bool} (h1 : PySem.W.subIn K (.type n) (.ref C) = some r) (h2 : PySem.W.isClsIn K C = true)
    (h3 : PySem.W.typeIn K (.ref C) = some (.type "type")) : PySem.W.kitOne K (.type n) (.ref C) = some r := by
  unfold PySem.W.kitOne
  rw [if_neg (by simp)]
  have h2' : (PySem.W.clsIn K C).isSome = true := h2
  show (if ((PySem.W.clsIn K C).isSome && PySem.W.typeIn K (.ref C) == some (.type "type")) = true then PySem.W.subIn K (.type n) (.ref C) else none) = some r
  rw [h2', h3, if_pos (by simp)]
  exact h1

section
theorem ok_Setting_init {K : PySem.W.Frag} {mg : Str → Option Value} {A0 : Ad} {P : Program} {w : World} {base : Heap} (T : Txt K mg A0) : FnOk P w K mg base CX0 4 A0.f_Setting_init A0.d_Setting_init ["self", "source", "head", "tail", "is_turned"] (spInit0 A0.c_Setting) := by
  have Gfirst_wrong := ok_first_wrong (P := P) (w := w) (base := base) T
  refine T.F_Setting_init.ok sc_Setting_init (fun vs H Q E h => ?_) (fun cdv A outer s H vs Q E hr h => ?_)
  · obtain ⟨p, dx, o, rfl, hp, hk, kk⟩ := h
    rfl
  · obtain ⟨p, dx, o, rfl, hp, hk, kk⟩ := h
    have hr_first_wrong : Room 3 _ := hr.mono (by decide)
    refine ⟨_, (pss_cons (ps_set (i := 5) sc_Setting_init.nd rfl (Or.inl rfl) (pe_call Gfirst_wrong hr_first_wrong rfl T.g_first_wrong T.k_first_wrong T.b_first_wrong .nil pass0 (pa_cons (pv 1) (pa_cons (pv 2) (pa_cons (pv 3) (pa_cons (pv 4) pa_nil))))))
      (pss_cons (ps_if (pt_cmpR op_notN (pv 5) pe_non (nomark _)) (pss_one ps_never) pss_nil)
      (pss_cons (ps_fld (pv 0) (pv 1) rfl)
      (pss_cons (ps_fld (pv 0) (pv 2) rfl)
      (pss_cons (ps_fld (pv 0) (pv 3) rfl)
      (pss_one (ps_fld (pv 0) (pv 4) rfl))))))), ?_⟩
    obtain ⟨tg, as⟩ := o.av (H := H)
    have ah : Av H (.str o.h) _ := .str o.h ⟨word_abc hk.wh, Nat.le_trans hk.lh (by decide)⟩
    have at_ : Av H (.str o.t) _ := .str o.t ⟨word_abc hk.wt, Nat.le_trans hk.lt (by decide)⟩
    refine ⟨_, rfl, _, rfl, _, rfl, _, rfl, o.sv, _, _, _, _, _, _, _, rfl, as, ah, at_, .bl o.u, fun H1 s1 => ?_⟩
    have hp1 := s1 _ _ hp
    rw [So.fw_ok hk]
    refine ⟨_, rfl, rfl, _, rfl, iteNS rfl ?_⟩
    refine ⟨_, rfl, _, rfl, p, _, dx, _, rfl, hp1, T.cl_Setting, T.n_Setting_source, (by show 0 < 1000; decide), ?_⟩
    refine ⟨_, rfl, _, rfl, p, _, dx, _, rfl, upd_same, T.cl_Setting, T.n_Setting_head, few (few0 (Nat.zero_le 4)) (by decide), ?_⟩
    refine ⟨_, rfl, _, rfl, p, _, dx, _, rfl, upd_same, T.cl_Setting, T.n_Setting_tail, few (few0 (few0 (Nat.zero_le 4))) (by decide), ?_⟩
    refine ⟨_, rfl, _, rfl, p, _, dx, _, rfl, upd_same, T.cl_Setting, T.n_Setting_is_turned, few (few0 (few0 (few0 (Nat.zero_le 4)))) (by decide), ?_⟩
    refine kk _ (fun b o nb q => ?_) ⟨dx, upd_same⟩
    rw [upd_ne nb, upd_ne nb, upd_ne nb, upd_ne nb]
    exact s1 _ _ q

end
end My

namespace My
open PySem PySem.Spec PyProof.Rows L2

local macro_rules | `(tactic| walk_at "rd") => `(tactic| (repeat (first
  | (refine ⟨_, rfl, ?_⟩) | (refine ⟨_, _, rfl, rfl, ?_⟩) | (refine ⟨_, _, rfl, ?_⟩) | (refine ⟨rfl, ?_⟩) | (refine ⟨⟨_, rfl⟩, ?_⟩)
  | (refine ⟨.inl (by decide), ?_⟩) | (refine ⟨.inr (by decide), ?_⟩) | (refine ⟨⟨by decide, by decide⟩, ?_⟩) | (refine ⟨⟨by decide, by decide, by decide⟩, ?_⟩) | (refine ⟨by decide, ?_⟩)
  | (refine ⟨(by show (0 : Int) < _; decide), ?_⟩)
  | (refine ⟨le_line rfl, ?_⟩) | (refine .inl ⟨_, rfl, ?_⟩) | (refine ⟨_, _, _, _, rfl, rfl, SqL.of (by assumption), rfl, ?_⟩))))


theorem iteT' {b : Bool} {A B : Prop} (h : b = true) (q : A) : if b = true then A else B := by rw [if_pos h]; exact q
theorem iteF' {b : Bool} {A B : Prop} (h : b = false) (q : B) : if b = true then A else B := by rw [if_neg (by rw [h]; decide)]; exact q

theorem log_small {i : Int} (h0 : 0 ≤ i) (h : i < 1000) : i.natAbs.log2 < 1920 := by
  exact Nat.lt_of_le_of_lt (Nat.log2_le_self _) (by omega)
theorem int_len {i : Int} (h0 : 0 ≤ i) (h : i < 1000) : (PySem.Str.ofString (toString i)).length ≤ 4 := by
  rw [PySem.ofString_length]; exact PySem.int_text_length_le10 (k := 3) (by decide) (by omega)
theorem app_assoc (a b c : Str) : a ++ b ++ c = a ++ (b ++ c) := str_ext (by rw [app_cps, app_cps, app_cps, app_cps, List.append_assoc])
theorem emp_app (a : Str) : Str.empty ++ a = a := str_ext (by rw [app_cps]; rfl)
theorem app_emp (a : Str) : a ++ Str.empty = a := str_ext (by rw [app_cps]; exact List.append_nil _)
theorem So.txt_none {o : So} (e : o.s = none) (e1 : o.t = Str.empty) : o.txt = Str.empty ++ o.h ++ (".-." : Str) := by
  unfold So.txt
  rw [e, e1, emp_app]
  show o.h ++ "." ++ "-" ++ "." ++ Str.empty = _
  rw [app_emp, app_assoc, app_assoc]
  exact congrArg (o.h ++ ·) (by decide +kernel)
theorem So.txt_t {o : So} {i : Int} (e : o.s = some i) (e1 : o.u = true) : o.txt = Str.empty ++ o.h ++ (".~" : Str) ++ (toString i : String) ++ ("." : Str) ++ o.t := by
  unfold So.txt
  rw [e, emp_app]
  show o.h ++ "." ++ ((if o.u = true then ("~" : Str) else Str.empty) ++ (toString i : String)) ++ "." ++ o.t = _
  rw [e1, if_pos rfl, app_assoc o.h, ← app_assoc ("." : Str)]
  rw [show ("." : Str) ++ ("~" : Str) = (".~" : Str) by decide +kernel, ← app_assoc o.h]
theorem So.txt_f {o : So} {i : Int} (e : o.s = some i) (e1 : o.u = false) : o.txt = Str.empty ++ o.h ++ ("." : Str) ++ (toString i : String) ++ ("." : Str) ++ o.t := by
  unfold So.txt
  rw [e, emp_app]
  show o.h ++ "." ++ ((if o.u = true then ("~" : Str) else Str.empty) ++ (toString i : String)) ++ "." ++ o.t = _
  rw [e1, if_neg (by decide), emp_app]

section
theorem ok_Setting_eq {K : PySem.W.Frag} {mg : Str → Option Value} {A0 : Ad} {P : Program} {w : World} {base : Heap} (T : Txt K mg A0) : FnOk P w K mg base CX0 1 A0.f_Setting_eq A0.d_Setting_eq ["self", "other"] (spEq A0.c_Setting) := by
  refine T.F_Setting_eq.ok sc_Setting_eq (fun vs H Q E h => ?_) (fun cdv A outer s H vs Q E hr h => ?_)
  · obtain ⟨a, v, o, r, rfl, hs, ho, kk⟩ := h
    rfl
  · obtain ⟨a, v, o, r, rfl, hs, ho, kk⟩ := h
    refine ⟨_, (pss_one (ps_ret (pe_and (pe_callB call_isi (by rfl) T.z_isinstance (by decide +kernel) (pa_cons (pv 1) (pa_cons (pe_glob (v := .ref A0.c_Setting) rfl T.g_Setting rfl) pa_nil))) (pe_and (pe_cmpR op_eq (pe_fld (pv 0) rfl) (pe_fld (pv 1) rfl) (nomark _)) (pe_and (pe_cmpR op_eq (pe_fld (pv 0) rfl) (pe_fld (pv 1) rfl) (nomark _)) (pe_and (pe_cmpR op_eq (pe_fld (pv 0) rfl) (pe_fld (pv 1) rfl) (nomark _)) (pe_one (pe_cmpR op_eq (pe_fld (pv 0) rfl) (pe_fld (pv 1) rfl) (nomark _))))))))), ?_⟩
    obtain ⟨dx, ha⟩ := hs
    cases ho with
    | set e =>
      rename_i b p
      obtain ⟨dy, hb⟩ := e
      walk_at "rd"
      refine ⟨_, _, _, _, _, rfl, .own _, .base (.ins hb T.cl_Setting T.r_ca T.r_cn T.r_ct T.r_mo), kit_same, _, rfl, ?_⟩
      refine iteT' rfl ?_
      have sc1 : scal o.sv p.sv = true := by
        unfold So.sv
        cases o.s <;> cases p.s <;> rfl
      unfold So.same at kk
      refine ⟨_, rfl, a, _, dx, _, _, rfl, ha, T.cl_Setting, T.n_Setting_source, o.l1, _, rfl, b, _, dy, _, _, rfl, hb, T.cl_Setting, T.n_Setting_source, p.l1, sc1, _, rfl, ?_⟩
      by_cases e1 : o.sv = p.sv
      · rw [decide_eq_true e1] at kk
        refine iteT' (decide_eq_true e1) ?_
        refine ⟨_, rfl, a, _, dx, _, _, rfl, ha, T.cl_Setting, T.n_Setting_head, o.l2, _, rfl, b, _, dy, _, _, rfl, hb, T.cl_Setting, T.n_Setting_head, p.l2, rfl, _, rfl, ?_⟩
        by_cases e2 : o.h = p.h
        · rw [decide_eq_true e2] at kk
          refine iteT' (decide_eq_true (by rw [e2])) ?_
          refine ⟨_, rfl, a, _, dx, _, _, rfl, ha, T.cl_Setting, T.n_Setting_tail, o.l3, _, rfl, b, _, dy, _, _, rfl, hb, T.cl_Setting, T.n_Setting_tail, p.l3, rfl, _, rfl, ?_⟩
          by_cases e3 : o.t = p.t
          · rw [decide_eq_true e3] at kk
            refine iteT' (decide_eq_true (by rw [e3])) ?_
            refine ⟨_, rfl, a, _, dx, _, _, rfl, ha, T.cl_Setting, T.n_Setting_is_turned, o.l4, _, rfl, b, _, dy, _, _, rfl, hb, T.cl_Setting, T.n_Setting_is_turned, p.l4, rfl, ?_⟩
            have : decide (V.bl o.u = V.bl p.u) = decide (o.u = p.u) := by
              by_cases e4 : o.u = p.u
              · rw [decide_eq_true e4, decide_eq_true (by rw [e4])]
              · rw [decide_eq_false e4, decide_eq_false (fun z => e4 (V.bl.inj z))]
            rw [this]
            exact kk
          · rw [decide_eq_false e3] at kk
            refine iteF' (decide_eq_false (fun z => e3 (V.str.inj z))) ?_
            exact kk
        · rw [decide_eq_false e2] at kk
          refine iteF' (decide_eq_false (fun z => e2 (V.str.inj z))) ?_
          exact kk
      · rw [decide_eq_false e1] at kk
        refine iteF' (decide_eq_false e1) ?_
        exact kk

theorem ok_Setting_str {K : PySem.W.Frag} {mg : Str → Option Value} {A0 : Ad} {P : Program} {w : World} {base : Heap} (T : Txt K mg A0) : FnOk P w K mg base CX0 1 A0.f_Setting_str A0.d_Setting_str ["self"] (spStr A0.c_Setting) := by
  refine T.F_Setting_str.ok sc_Setting_str (fun vs H Q E h => ?_) (fun cdv A outer s H vs Q E hr h => ?_)
  · obtain ⟨a, o, rfl, hs, hk, kk⟩ := h
    rfl
  · obtain ⟨a, o, rfl, hs, hk, kk⟩ := h
    refine ⟨_, (pss_cons (ps_if (pt_cmpR op_isN (pe_fld (pv 0) rfl) pe_non (nomark _)) (pss_one (ps_ret (pe_joined (.cons (pe_fmt (pe_fld (pv 0) rfl)) (.cons pe_str .nil))))) pss_nil)
      (pss_cons (ps_if (pt_val (pe_fld (pv 0) rfl)) (pss_one (ps_ret (pe_joined (.cons (pe_fmt (pe_fld (pv 0) rfl)) (.cons pe_str (.cons (pe_fmt (pe_fld (pv 0) rfl)) (.cons pe_str (.cons (pe_fmt (pe_fld (pv 0) rfl)) .nil)))))))) pss_nil)
      (pss_one (ps_ret (pe_joined (.cons (pe_fmt (pe_fld (pv 0) rfl)) (.cons pe_str (.cons (pe_fmt (pe_fld (pv 0) rfl)) (.cons pe_str (.cons (pe_fmt (pe_fld (pv 0) rfl)) .nil)))))))))), ?_⟩
    obtain ⟨dx, ha⟩ := hs
    have oe : o.sv = (match o.s with | none => .non | some i => .int i) := rfl
    refine ⟨_, rfl, a, _, dx, _, _, rfl, ha, T.cl_Setting, T.n_Setting_source, o.l1, ?_⟩
    refine ⟨rfl, _, rfl, ?_⟩
    have hl := hk.lh
    have h2 := hk.lt
    have l0 : (Str.empty ++ o.h).length ≤ 100 := by rw [emp_app]; exact hl
    cases es : o.s with
    | none =>
      rw [es] at oe
      refine iteT' (decide_eq_true oe) ?_
      obtain ⟨e0, _⟩ := hk.no es
      rw [So.txt_none es e0] at kk
      refine ⟨_, rfl, a, _, dx, _, _, rfl, ha, T.cl_Setting, T.n_Setting_head, o.l2, .inl ⟨_, rfl, le_lineN (by omega), _, rfl, le_lineN (by omega), ?_⟩⟩
      refine ⟨_, rfl, le_lineN ?_, kk⟩
      rw [app_len, show (Str.ofString ".-.").length = 3 by decide +kernel]
      omega
    | some i =>
      rw [es] at oe
      obtain ⟨i0, i1⟩ := hk.lo i es
      have lg : i.natAbs.log2 < 1920 := log_small i0 (by omega)
      have li := int_len i0 (by omega)
      refine iteF' (decide_eq_false (by rw [oe]; exact fun z => nomatch z)) ?_
      refine ⟨_, rfl, a, _, dx, _, _, rfl, ha, T.cl_Setting, T.n_Setting_is_turned, o.l4, ?_⟩
      refine ⟨_, rfl, ?_⟩
      cases eu : o.u with
      | true =>
        rw [So.txt_t es eu] at kk
        have l1 : (Str.empty ++ o.h ++ (".~" : Str)).length ≤ 102 := by rw [app_len, show (".~" : Str).length = 2 by decide +kernel]; omega
        have l2 : (Str.empty ++ o.h ++ (".~" : Str) ++ (toString i : String)).length ≤ 106 := by rw [app_len]; omega
        have l3 : (Str.empty ++ o.h ++ (".~" : Str) ++ (toString i : String) ++ ("." : Str)).length ≤ 107 := by rw [app_len, show ("." : Str).length = 1 by decide +kernel]; omega
        refine iteT' rfl ?_
        refine ⟨_, rfl, a, _, dx, _, _, rfl, ha, T.cl_Setting, T.n_Setting_head, o.l2, .inl ⟨_, rfl, le_lineN (by omega), _, rfl, le_lineN (by omega), ?_⟩⟩
        refine ⟨_, rfl, le_lineN (Nat.le_trans l1 (by decide)), ?_⟩
        refine ⟨_, rfl, a, _, dx, _, _, rfl, ha, T.cl_Setting, T.n_Setting_source, o.l1, .inr ⟨i, oe, lg, _, rfl, le_lineN (Nat.le_trans l2 (by decide)), ?_⟩⟩
        refine ⟨_, rfl, le_lineN (Nat.le_trans l3 (by decide)), ?_⟩
        refine ⟨_, rfl, a, _, dx, _, _, rfl, ha, T.cl_Setting, T.n_Setting_tail, o.l3, .inl ⟨_, rfl, le_lineN (by omega), _, rfl, le_lineN (by rw [app_len]; exact Nat.le_trans (Nat.add_le_add l3 h2) (by decide)), ?_⟩⟩
        exact kk
      | false =>
        rw [So.txt_f es eu] at kk
        have l1 : (Str.empty ++ o.h ++ ("." : Str)).length ≤ 101 := by rw [app_len, show ("." : Str).length = 1 by decide +kernel]; omega
        have l2 : (Str.empty ++ o.h ++ ("." : Str) ++ (toString i : String)).length ≤ 105 := by rw [app_len]; omega
        have l3 : (Str.empty ++ o.h ++ ("." : Str) ++ (toString i : String) ++ ("." : Str)).length ≤ 106 := by rw [app_len, show ("." : Str).length = 1 by decide +kernel]; omega
        refine iteF' rfl ?_
        refine ⟨_, rfl, a, _, dx, _, _, rfl, ha, T.cl_Setting, T.n_Setting_head, o.l2, .inl ⟨_, rfl, le_lineN (by omega), _, rfl, le_lineN (by omega), ?_⟩⟩
        refine ⟨_, rfl, le_lineN (Nat.le_trans l1 (by decide)), ?_⟩
        refine ⟨_, rfl, a, _, dx, _, _, rfl, ha, T.cl_Setting, T.n_Setting_source, o.l1, .inr ⟨i, oe, lg, _, rfl, le_lineN (Nat.le_trans l2 (by decide)), ?_⟩⟩
        refine ⟨_, rfl, le_lineN (Nat.le_trans l3 (by decide)), ?_⟩
        refine ⟨_, rfl, a, _, dx, _, _, rfl, ha, T.cl_Setting, T.n_Setting_tail, o.l3, .inl ⟨_, rfl, le_lineN (by omega), _, rfl, le_lineN (by rw [app_len]; exact Nat.le_trans (Nat.add_le_add l3 h2) (by decide)), ?_⟩⟩
        exact kk

end
end My

namespace My
open PySem PySem.Spec PyProof.Rows L2

local macro_rules | `(tactic| walk_at "rd") => `(tactic| (repeat (first
  | (refine ⟨_, rfl, ?_⟩) | (refine ⟨_, _, rfl, rfl, ?_⟩) | (refine ⟨_, _, rfl, ?_⟩) | (refine ⟨rfl, ?_⟩) | (refine ⟨⟨_, rfl⟩, ?_⟩)
  | (refine ⟨.inl (by decide), ?_⟩) | (refine ⟨.inr (by decide), ?_⟩) | (refine ⟨⟨by decide, by decide⟩, ?_⟩) | (refine ⟨⟨by decide, by decide, by decide⟩, ?_⟩) | (refine ⟨by decide, ?_⟩)
  | (refine ⟨(by show (0 : Int) < _; decide), ?_⟩)
  | (refine ⟨le_line rfl, ?_⟩) | (refine .inl ⟨_, rfl, ?_⟩) | (refine ⟨_, _, _, _, rfl, rfl, SqL.of (by assumption), rfl, ?_⟩))))

section
theorem ok_seed {K : PySem.W.Frag} {mg : Str → Option Value} {A0 : Ad} {P : Program} {w : World} {base : Heap} (T : Txt K mg A0) : FnOk P w K mg base CX0 1 A0.f_seed A0.d_seed ["_law_script", "_law_k"] (spSeed K) := by
  refine T.F_seed.ok sc_seed (fun vs H Q E h => ?_) (fun cdv A outer s H vs Q E hr h => ?_)
  · obtain ⟨a, ns, k, rfl, hS, hlen, hk0, hk1, kk⟩ := h
    rfl
  · obtain ⟨a, ns, k, rfl, hS, hlen, hk0, hk1, kk⟩ := h
    refine ⟨_, (pss_cons (ps_set (i := 2) sc_seed.nd rfl (Or.inl rfl) (pe_op op_add (pe_op op_mul pe_int (pv 1)) pe_int))
      (pss_cons (ps_if (pt_cmpR op_lt (pv 1) (pe_callB call_len_seq (by rfl) T.z_len (by decide +kernel) (pa_cons (pv 0) pa_nil)) (nomark _)) (pss_one (ps_set (i := 2) sc_seed.nd rfl (Or.inl rfl) (pe_callB call_abs (by rfl) T.z_abs (by decide +kernel) (pa_cons (pe_ix ix_list (pv 0) (pv 1) (fun _ _ => rfl)) pa_nil)))) (pss_one (ps_if (pt_cmpR op_gt (pe_callB call_len_seq (by rfl) T.z_len (by decide +kernel) (pa_cons (pv 0) pa_nil)) pe_int (nomark _)) (pss_one (ps_set (i := 2) sc_seed.nd rfl (Or.inl rfl) (pe_op op_add (pv 2) (pe_op op_mul (pe_op op_mod (pe_callTy call_int1 (by rfl) T.z_int (by decide +kernel) (pa_cons (pe_callB call_abs (by rfl) T.z_abs (by decide +kernel) (pa_cons (pe_ix ix_list (pv 0) (pe_op op_mod (pe_callTy call_int1 (by rfl) T.z_int (by decide +kernel) (pa_cons (pv 1) pa_nil)) (pe_callB call_len_seq (by rfl) T.z_len (by decide +kernel) (pa_cons (pv 0) pa_nil))) (fun _ _ => rfl)) pa_nil)) pa_nil)) pe_int) pe_int)))) pss_nil)))
      (pss_cons (ps_set (i := 3) sc_seed.nd rfl (Or.inl rfl) (pe_ifExp (pt_cmpR op_ge (pv 2) (pe_op op_pow pe_int pe_int) (nomark _)) (pv 2) pe_int))
      (pss_one (ps_ret (pe_lst (pa_cons (pv 3) (pa_cons (pe_op op_add (pe_op op_mod (pe_callTy call_int1 (by rfl) T.z_int (by decide +kernel) (pa_cons (pe_op op_add (pe_op op_mul (pe_op op_mod (pe_callTy call_int1 (by rfl) T.z_int (by decide +kernel) (pa_cons (pv 2) pa_nil)) pe_int) pe_int) (pe_op op_mul pe_int (pv 1))) pa_nil)) pe_int) pe_int) pa_nil)))))))), ?_⟩
    have hl : ((ns.map V.int).length : Int) = ns.length := by rw [List.length_map]
    have fin : ∀ (p : Addr) (g r : Int), H p = none → Q (.ref p) (upd H p (.lst [.int g, .int r])) := kk
    walk_at "rd"
    refine ⟨_, _, rfl, .inl hS, ?_⟩
    walk_at "rd"
    rw [hl]
    refine ite2 (fun h1 => ?_) (fun h1 => ?_)
    · obtain ⟨n, en⟩ := at_ints hk0 (of_decide_eq_true h1)
      refine ⟨_, rfl, _, rfl, _, _, k, .int n, rfl, rfl, hS, en, ?_⟩
      walk_at "rd"
      refine ite2 (fun h2 => ?_) (fun h2 => ?_) <;> (walk_at "rd"; exact fun p np => kk p _ _ np)
    · walk_at "rd"
      refine ⟨_, _, rfl, .inl hS, ?_⟩
      walk_at "rd"
      rw [hl]
      refine ite2 (fun h3 => ?_) (fun h3 => ?_)
      · have h3' : (0 : Int) < ns.length := of_decide_eq_true h3
        walk_at "rd"
        refine ⟨_, _, rfl, .inl hS, ?_⟩
        walk_at "rd"
        rw [hl]
        obtain ⟨n, en⟩ := at_ints (ns := ns) (k := k % (ns.length : Int)) (Int.emod_nonneg _ (by omega)) (Int.emod_lt_of_pos _ h3')
        refine ⟨h3', _, _, _, .int n, rfl, rfl, hS, en, ?_⟩
        walk_at "rd"
        refine ite2 (fun h2 => ?_) (fun h2 => ?_) <;> (walk_at "rd"; exact fun p np => kk p _ _ np)
      · walk_at "rd"
        refine ite2 (fun h2 => ?_) (fun h2 => ?_) <;> (walk_at "rd"; exact fun p np => kk p _ _ np)

theorem ok_choose {K : PySem.W.Frag} {mg : Str → Option Value} {A0 : Ad} {P : Program} {w : World} {base : Heap} (T : Txt K mg A0) : FnOk P w K mg base CX0 1 A0.f_choose A0.d_choose ["_law_box", "_law_many"] (spChoose) := by
  refine T.F_choose.ok sc_choose (fun vs H Q E h => ?_) (fun cdv A outer s H vs Q E hr h => ?_)
  · obtain ⟨b, m, rfl, hB, hm0, hm1, kk⟩ := h
    rfl
  · obtain ⟨b, m, rfl, hB, hm0, hm1, kk⟩ := h
    refine ⟨_, (pss_cons (ps_if (pt_cmpR op_gt (pe_ix ix_list (pv 0) pe_int (fun _ _ => rfl)) pe_int (nomark _)) (pss_cons (ps_set (i := 2) sc_choose.nd rfl (Or.inl rfl) (pe_op op_mod (pe_callTy call_int1 (by rfl) T.z_int (by decide +kernel) (pa_cons (pe_ix ix_list (pv 0) pe_int (fun _ _ => rfl)) pa_nil)) (pv 1)))
      (pss_cons (ps_asg (pe_op op_fdiv (pe_ix ix_list (pv 0) pe_int (fun _ _ => rfl)) (pv 1)) (pg_sub (pv 0) pe_int set_list))
      (pss_one (ps_ret (pv 2))))) pss_nil)
      (pss_cons (ps_set (i := 3) sc_choose.nd rfl (Or.inl rfl) (pe_op op_mod (pe_callTy call_int1 (by rfl) T.z_int (by decide +kernel) (pa_cons (pe_op op_add (pe_op op_mul (pe_ix ix_list (pv 0) pe_int (fun _ _ => rfl)) pe_int) pe_int) pa_nil)) pe_int))
      (pss_cons (ps_asg (pe_op op_add (pe_op op_mod (pe_callTy call_int1 (by rfl) T.z_int (by decide +kernel) (pa_cons (pe_op op_add (pe_op op_mul (pv 3) pe_int) pe_int) pa_nil)) pe_int) pe_int) (pg_sub (pv 0) pe_int set_list))
      (pss_one (ps_ret (pe_op op_mod (pe_callTy call_int1 (by rfl) T.z_int (by decide +kernel) (pa_cons (pe_op op_fdiv (pe_op op_add (pe_op op_mul (pv 3) pe_int) (pe_ix ix_list (pv 0) pe_int (fun _ _ => rfl))) pe_int) pa_nil)) (pv 1))))))), ?_⟩
    obtain ⟨g, r, hb⟩ := hB
    have fr : ∀ (H' : Hp), (∀ a o, H a = some o → a ≠ b → H' a = some o) → H' b ≠ none → ∀ p, H' p = none → H p = none := fun H' k1 k2 p np => by
      cases q : H p with
      | none => rfl
      | some o =>
        by_cases e : p = b
        · exact absurd (e ▸ np) k2
        · rw [k1 p o q e] at np
          cases np
    have two : ∀ (x y : Int) (xs : List V), xs = [.int x, .int y] → ∃ g' r' : Int, xs = [.int g', .int r'] := fun x y xs e => ⟨x, y, e⟩
    walk_at "rd"
    refine ite2 (fun hg => ?_) (fun hg => ?_)
    · walk_at "rd"
      refine ⟨hm0, ?_⟩
      walk_at "rd"
      refine ⟨⟨hm0, by show m < 1073741824; omega⟩, ?_⟩
      walk_at "rd"
      refine ⟨b, _, 0, 0, rfl, rfl, hb, rfl, ?_⟩
      walk_at "rd"
      exact kk _ _ (Dr.put (g / m) r) (Int.emod_nonneg _ (by omega)) (Int.emod_lt_of_pos _ hm0) (fr _ (fun a o e n => by rw [upd_ne n]; exact e) (by rw [upd_same]; exact fun z => nomatch z))
    · walk_at "rd"
      refine ⟨b, _, 1, 1, rfl, rfl, hb, rfl, ?_⟩
      walk_at "rd"
      refine ⟨_, _, _, _, rfl, rfl, SqL.of upd_same, rfl, ?_⟩
      walk_at "rd"
      refine ⟨hm0, ?_⟩
      exact kk _ _ (Dr.put g _) (Int.emod_nonneg _ (by omega)) (Int.emod_lt_of_pos _ hm0) (fr _ (fun a o e n => by rw [upd_ne n]; exact e) (by rw [upd_same]; exact fun z => nomatch z))

theorem ok_one_of {K : PySem.W.Frag} {mg : Str → Option Value} {A0 : Ad} {P : Program} {w : World} {base : Heap} (T : Txt K mg A0) : FnOk P w K mg base CX0 2 A0.f_one_of A0.d_one_of ["_law_box", "_law_some"] (spOne K) := by
  have Gchoose := ok_choose (P := P) (w := w) (base := base) T
  refine T.F_one_of.ok sc_one_of (fun vs H Q E h => ?_) (fun cdv A outer s H vs Q E hr h => ?_)
  · obtain ⟨b, p, xs, rfl, hB, hS, npb, hl0, hl1, kk⟩ := h
    rfl
  · obtain ⟨b, p, xs, rfl, hB, hS, npb, hl0, hl1, kk⟩ := h
    have hr_choose : Room 1 _ := hr.mono (by decide)
    refine ⟨_, (pss_one (ps_ret (pe_ix ix_list (pv 1) (pe_call Gchoose hr_choose rfl T.g_choose T.k_choose T.b_choose .nil pass0 (pa_cons (pv 0) (pa_cons (pe_callB call_len_seq (by rfl) T.z_len (by decide +kernel) (pa_cons (pv 1) pa_nil)) pa_nil))) (fun _ _ => rfl)))), ?_⟩
    walk_at "rd"
    refine ⟨_, _, rfl, .inl hS, ?_⟩
    refine ⟨b, (xs.length : Int), rfl, hB, by omega, by omega, fun d H' D d0 d1 _ => ?_⟩
    obtain ⟨v, ev, mv⟩ := at_some d0 d1
    exact ⟨_, _, _, v, rfl, rfl, D.sqL npb hS, ev, kk v H' D mv⟩

theorem ok_told {K : PySem.W.Frag} {mg : Str → Option Value} {A0 : Ad} {P : Program} {w : World} {base : Heap} (T : Txt K mg A0) : FnOk P w K mg base CX0 3 A0.f_told A0.d_told ["_law_box", "_law_marks", "_law_most"] (spTold) := by
  have Gone_of := ok_one_of (P := P) (w := w) (base := base) T
  have Gchoose := ok_choose (P := P) (w := w) (base := base) T
  refine T.F_told.ok sc_told (fun vs H Q E h => ?_) (fun cdv A outer s H vs Q E hr h => ?_)
  · obtain ⟨b, z, m, rfl, hB, hz0, hz1, hm0, hm1, kk⟩ := h
    rfl
  · obtain ⟨b, z, m, rfl, hB, hz0, hz1, hm0, hm1, kk⟩ := h
    have hr_one_of : Room 2 _ := hr.mono (by decide)
    have hr_choose : Room 1 _ := hr.mono (by decide)
    refine ⟨_, (pss_one (ps_ret (pe_join pe_str (pe_lc (own := [("_law_turn", 3)]) (g := gName 3) (tt := tYes) rfl sc_told.nd (pi_range1 (by rfl) T.z_range (pa_cons (pe_call Gchoose hr_choose rfl T.g_choose T.k_choose T.b_choose .nil pass0 (pa_cons (pv 0) (pa_cons (pe_op op_add (pv 2) pe_int) pa_nil))) pa_nil)) (blkOk_by (own := [("_law_turn", 3)]) (N := N_told) (sc := defScope s_told) (by decide +kernel)) (fun _ _ _ _ _ => (pg_name (i := 3) sc_told.nd rfl (Or.inl rfl))) (fun _ _ _ _ _ => pts_nil) (fun _ _ _ _ _ => by exact (pe_call Gone_of hr_one_of rfl T.g_one_of T.k_one_of T.b_one_of .nil pass0 (pa_cons (pv 0) (pa_cons (pe_callTy (cr_listStr rfl) (by rfl) T.z_list (by decide +kernel) (pa_cons (pv 1) pa_nil)) pa_nil)))))))), ?_⟩
    walk_at "rd"
    refine ⟨hB, by omega, by omega, fun d H1 D1 d0 d1 _ => ?_⟩
    refine ⟨d, rfl, by omega, by omega, fun L nL => ?_⟩
    have nLb : L ≠ b := D1.bx.ne nL
    refine lc_range (lo := 0) (n := d.toNat) (fun i H' => ∃ ys : List Str, Dr b H H' ∧ H' L = some (.lst (ys.map V.str)) ∧ ys.length = i ∧ ∀ y ∈ ys, OneOf z y)
      ⟨[], D1.trans (.same D1.bx (same_upd nL)), upd_same, rfl, fun y hy => by cases hy⟩ (fun i H2 hi P2 => ?_) (fun H2 P2 => ?_)
    · obtain ⟨ys, D2, eL, hy, ho⟩ := P2
      walk_at "rd"
      refine ⟨le_lineN (by omega), fun p np => ?_⟩
      have D3 : Dr b H (upd H2 p (.lst (sgn z))) := D2.trans (.same D2.bx (same_upd np))
      have nLp : L ≠ p := ne_of_none eL np
      refine ⟨b, p, sgn z, rfl, D3.bx, SqL.of upd_same, D2.bx.ne np, by rw [sgn_len]; exact hz0, by rw [sgn_len]; exact hz1, fun v H3 D4 mv => ?_⟩
      obtain ⟨y, rfl, oy⟩ := sgn_mem mv
      have e3 : H3 L = some (.lst (ys.map V.str)) := D4.kp _ _ nLb (by rw [upd_ne nLp]; exact eL)
      refine ⟨_, e3, by rw [List.length_map]; exact Nat.lt_of_lt_of_le (show ys.length < 1000 by omega) (le_line rfl), ys ++ [y], ?_, ?_, ?_, ?_⟩
      · refine ⟨fun a o n e => ?_, ?_⟩
        · rw [upd_ne (ne_of_none e (D1.free nL))]
          exact D4.kp _ _ n (D3.kp _ _ n e)
        · obtain ⟨g, r, eb⟩ := D4.bx
          exact ⟨g, r, by rw [upd_ne nLb.symm]; exact eb⟩
      · rw [upd_same, List.map_append]
        rfl
      · rw [List.length_append, hy]
        rfl
      · intro x hx
        rcases List.mem_append.mp hx with hx | hx
        · exact ho x hx
        · rw [List.mem_singleton.mp hx]
          exact oy
    · obtain ⟨ys, D2, eL, hy, ho⟩ := P2
      refine ⟨_, L, ys, rfl, rfl, .inl (SqL.of eL), ?_, ?_⟩
      · rw [ones_len ho]
        show ys.length + ys.length * 0 ≤ 16777216
        omega
      · obtain ⟨h1, h2⟩ := ones_join ho
        refine kk _ _ D2 ?_ h2
        show ((Txt.join ⟨#[]⟩ ys).length : Int) ≤ m
        rw [h1]
        omega

theorem ok_set_text {K : PySem.W.Frag} {mg : Str → Option Value} {A0 : Ad} {P : Program} {w : World} {base : Heap} (T : Txt K mg A0) : FnOk P w K mg base CX0 1 A0.f_set_text A0.d_set_text ["_law_one"] (spTxt) := by
  refine T.F_set_text.ok sc_set_text (fun vs H Q E h => ?_) (fun cdv A outer s H vs Q E hr h => ?_)
  · obtain ⟨l, o, rfl, hl, hk, kk⟩ := h
    rfl
  · obtain ⟨l, o, rfl, hl, hk, kk⟩ := h
    refine ⟨_, (pss_cons (ps_set (i := 1) sc_set_text.nd rfl (Or.inl rfl) (pe_ifExp (pt_cmpR op_isN (pe_ix ix_tup (pv 0) pe_int (fun _ _ => rfl)) pe_non (nomark _)) pe_str (pe_op op_add_str (pe_ifExp (pt_val (pe_ix ix_tup (pv 0) pe_int (fun _ _ => rfl))) pe_str pe_str) (pe_callTy call_str_int (by rfl) T.z_str (by decide +kernel) (pa_cons (pe_ix ix_tup (pv 0) pe_int (fun _ _ => rfl)) pa_nil)))))
      (pss_one (ps_ret (pe_op op_add_str (pe_op op_add_str (pe_op op_add_str (pe_op op_add_str (pe_ix ix_tup (pv 0) pe_int (fun _ _ => rfl)) pe_str) (pv 1)) pe_str) (pe_ix ix_tup (pv 0) pe_int (fun _ _ => rfl)))))), ?_⟩
    have hl3 := hk.lh
    have h2 := hk.lt
    have d1 : (Str.ofString ".").length = 1 := by decide +kernel
    refine ⟨_, rfl, l, o.vs, 0, o.sv, rfl, rfl, SqT.of hl, rfl, rfl, _, rfl, ?_⟩
    cases es : o.s with
    | none =>
      have oe : o.sv = .non := by unfold So.sv; rw [es]
      have tx : o.txt = o.h ++ "." ++ "-" ++ "." ++ o.t := by unfold So.txt; rw [es]
      rw [tx] at kk
      have d2 : (Str.ofString "-").length = 1 := by decide +kernel
      refine iteT' (decide_eq_true oe) ?_
      refine ⟨_, rfl, l, o.vs, 1, .str o.h, rfl, rfl, SqT.of hl, rfl, _, _, rfl, rfl, le_lineN (by rw [d1]; omega), ?_⟩
      refine ⟨_, rfl, _, _, rfl, rfl, le_lineN (by rw [app_len]; omega), ?_⟩
      refine ⟨_, _, rfl, rfl, le_lineN (by rw [app_len, app_len]; omega), ?_⟩
      refine ⟨_, rfl, l, o.vs, 2, .str o.t, rfl, rfl, SqT.of hl, rfl, _, _, rfl, rfl, le_lineN (by rw [app_len, app_len, app_len]; omega), ?_⟩
      exact kk
    | some i =>
      have oe : o.sv = .int i := by unfold So.sv; rw [es]
      obtain ⟨i0, i1⟩ := hk.lo i es
      have lg : i.natAbs.log2 < 1920 := log_small i0 (by omega)
      have li := int_len i0 (by omega)
      refine iteF' (decide_eq_false (by rw [oe]; exact fun z => nomatch z)) ?_
      refine ⟨_, rfl, l, o.vs, 3, .bl o.u, rfl, rfl, SqT.of hl, rfl, _, rfl, ?_⟩
      cases eu : o.u with
      | true =>
        have tx : o.txt = o.h ++ "." ++ (("~" : Str) ++ (toString i : String)) ++ "." ++ o.t := by
          unfold So.txt
          rw [es]
          show o.h ++ "." ++ ((if o.u = true then ("~" : Str) else Str.empty) ++ (toString i : String)) ++ "." ++ o.t = _
          rw [eu, if_pos rfl]
        rw [tx] at kk
        have d3 : (Str.ofString "~").length = 1 := by decide +kernel
        refine iteT' rfl ?_
        refine ⟨_, rfl, l, o.vs, 0, o.sv, rfl, rfl, SqT.of hl, rfl, i, by rw [oe], lg, _, _, rfl, rfl, le_lineN (by omega), ?_⟩
        have d2 : ((Str.ofString "~") ++ (toString i : String)).length ≤ 5 := by rw [app_len]; omega
        refine ⟨_, rfl, l, o.vs, 1, .str o.h, rfl, rfl, SqT.of hl, rfl, _, _, rfl, rfl, le_lineN (by rw [d1]; omega), ?_⟩
        refine ⟨_, rfl, _, _, rfl, rfl, le_lineN (by rw [app_len]; omega), ?_⟩
        refine ⟨_, _, rfl, rfl, le_lineN (by rw [app_len, app_len]; omega), ?_⟩
        refine ⟨_, rfl, l, o.vs, 2, .str o.t, rfl, rfl, SqT.of hl, rfl, _, _, rfl, rfl, le_lineN (by rw [app_len, app_len, app_len]; omega), ?_⟩
        exact kk
      | false =>
        have tx : o.txt = o.h ++ "." ++ ((Str.ofString "") ++ (toString i : String)) ++ "." ++ o.t := by
          unfold So.txt
          rw [es]
          show o.h ++ "." ++ ((if o.u = true then ("~" : Str) else Str.empty) ++ (toString i : String)) ++ "." ++ o.t = _
          rw [eu, if_neg (by decide)]
          rfl
        rw [tx] at kk
        have d3 : (Str.ofString "").length = 0 := by decide +kernel
        refine iteF' rfl ?_
        refine ⟨_, rfl, l, o.vs, 0, o.sv, rfl, rfl, SqT.of hl, rfl, i, by rw [oe], lg, _, _, rfl, rfl, le_lineN (by omega), ?_⟩
        have d2 : ((Str.ofString "") ++ (toString i : String)).length ≤ 5 := by rw [app_len]; omega
        refine ⟨_, rfl, l, o.vs, 1, .str o.h, rfl, rfl, SqT.of hl, rfl, _, _, rfl, rfl, le_lineN (by rw [d1]; omega), ?_⟩
        refine ⟨_, rfl, _, _, rfl, rfl, le_lineN (by rw [app_len]; omega), ?_⟩
        refine ⟨_, _, rfl, rfl, le_lineN (by rw [app_len, app_len]; omega), ?_⟩
        refine ⟨_, rfl, l, o.vs, 2, .str o.t, rfl, rfl, SqT.of hl, rfl, _, _, rfl, rfl, le_lineN (by rw [app_len, app_len, app_len]; omega), ?_⟩
        exact kk

theorem ok_free {K : PySem.W.Frag} {mg : Str → Option Value} {A0 : Ad} {P : Program} {w : World} {base : Heap} (T : Txt K mg A0) : FnOk P w K mg base CX0 4 A0.f_free A0.d_free ["_law_box", "_law_marks"] (spFree) := by
  have Gchoose := ok_choose (P := P) (w := w) (base := base) T
  have Gone_of := ok_one_of (P := P) (w := w) (base := base) T
  have Gtold := ok_told (P := P) (w := w) (base := base) T
  refine T.F_free.ok sc_free (fun vs H Q E h => ?_) (fun cdv A outer s H vs Q E hr h => ?_)
  · obtain ⟨b, z, rfl, hB, hz0, hz1, hw, kk⟩ := h
    rfl
  · obtain ⟨b, z, rfl, hB, hz0, hz1, hw, kk⟩ := h
    have hr_choose : Room 1 _ := hr.mono (by decide)
    have hr_one_of : Room 2 _ := hr.mono (by decide)
    have hr_told : Room 3 _ := hr.mono (by decide)
    refine ⟨_, (pss_cons (ps_if (pt_cmpR op_eq (pe_call Gchoose hr_choose rfl T.g_choose T.k_choose T.b_choose .nil pass0 (pa_cons (pv 0) (pa_cons pe_int pa_nil))) pe_int (nomark _)) (pss_one (ps_ret (pe_tup (pa_cons pe_non (pa_cons (pe_call Gtold hr_told rfl T.g_told T.k_told T.b_told .nil pass0 (pa_cons (pv 0) (pa_cons (pv 1) (pa_cons pe_int pa_nil)))) (pa_cons pe_str (pa_cons pe_bl pa_nil))))))) pss_nil)
      (pss_cons (ps_par (i := 2) (j := 3) (by rfl) sc_free.nd rfl rfl (by decide) rfl rfl (pa_cons (pe_call Gone_of hr_one_of rfl T.g_one_of T.k_one_of T.b_one_of .nil pass0 (pa_cons (pv 0) (pa_cons (pe_lst (pa_cons pe_int (pa_cons pe_int (pa_cons pe_int (pa_cons pe_int (pa_cons pe_int pa_nil)))))) pa_nil))) (pa_cons (pe_call Gtold hr_told rfl T.g_told T.k_told T.b_told .nil pass0 (pa_cons (pv 0) (pa_cons (pv 1) (pa_cons pe_int pa_nil)))) pa_nil)) (by rfl))
      (pss_one (ps_ret (pe_tup (pa_cons (pv 2) (pa_cons (pv 3) (pa_cons (pe_call Gtold hr_told rfl T.g_told T.k_told T.b_told .nil pass0 (pa_cons (pv 0) (pa_cons (pv 1) (pa_cons pe_int pa_nil)))) (pa_cons (pe_cmpR op_eq (pe_call Gchoose hr_choose rfl T.g_choose T.k_choose T.b_choose .nil pass0 (pa_cons (pv 0) (pa_cons pe_int pa_nil))) pe_int (nomark _)) pa_nil))))))))), ?_⟩
    walk_at "rd"
    refine ⟨hB, by decide, by decide, fun d H1 D1 d0 d1 _ => ?_⟩
    walk_at "rd"
    refine ite2 (fun h0 => ?_) (fun h0 => ?_)
    · walk_at "rd"
      refine ⟨b, z, 3, rfl, D1.bx, hz0, hz1, by decide, by decide, fun y H2 D2 ly cy => ?_⟩
      walk_at "rd"
      intro p np
      have wy := word_sub cy hw
      exact kk p ⟨none, y, Str.empty, false⟩ _ ((D1.trans D2).trans (.same D2.bx (same_upd np))) upd_same ⟨wy, rfl, by show y.length ≤ 100; omega, by show 0 ≤ 100; decide, (fun _ q => nomatch q), fun _ => ⟨rfl, rfl⟩⟩ ⟨by show y.length ≤ 3; omega, Nat.zero_le _⟩
    · walk_at "rd"
      intro L nL
      have D2 : Dr b H1 (upd H1 L (.lst [.int 0, .int 1, .int 1, .int 7, .int 12])) := .same D1.bx (same_upd nL)
      refine ⟨b, L, _, rfl, D2.bx, SqL.of upd_same, D1.bx.ne nL, Nat.le_of_ble_eq_true rfl, Nat.le_of_ble_eq_true rfl, fun v H3 D3 mv => ?_⟩
      obtain ⟨i, rfl, hi⟩ : ∃ i : Int, v = .int i ∧ (0 ≤ i ∧ i ≤ 12) := by
        simp only [List.mem_cons, List.not_mem_nil, or_false] at mv
        rcases mv with rfl | rfl | rfl | rfl | rfl <;> exact ⟨_, rfl, by decide⟩
      walk_at "rd"
      refine ⟨b, z, 3, rfl, D3.bx, hz0, hz1, by decide, by decide, fun y H4 D4 ly cy => ?_⟩
      walk_at "rd"
      refine ⟨b, z, 3, rfl, D4.bx, hz0, hz1, by decide, by decide, fun x H5 D5 lx cx => ?_⟩
      walk_at "rd"
      refine ⟨D5.bx, by decide, by decide, fun d6 H6 D6 _ _ _ => ?_⟩
      walk_at "rd"
      intro p np
      have wy := word_sub cy hw
      have wx := word_sub cx hw
      exact kk p ⟨some i, y, x, decide (V.int d6 = V.int 0)⟩ _ ((D1.trans (D2.trans (D3.trans (D4.trans (D5.trans D6))))).trans (.same D6.bx (same_upd np))) upd_same ⟨wy, wx, by show y.length ≤ 100; omega, by show x.length ≤ 100; omega, fun j q => by cases q; exact ⟨hi.1, by omega⟩, fun q => nomatch q⟩ ⟨by show y.length ≤ 3; omega, by show x.length ≤ 3; omega⟩

theorem ok_set_of {K : PySem.W.Frag} {mg : Str → Option Value} {A0 : Ad} {P : Program} {w : World} {base : Heap} (T : Txt K mg A0) : FnOk P w K mg base CX0 6 A0.f_set_of A0.d_set_of ["_law_one"] (spSetOf A0.c_Setting) := by
  have GSetting_init := ok_Setting_init (P := P) (w := w) (base := base) T
  refine T.F_set_of.ok sc_set_of (fun vs H Q E h => ?_) (fun cdv A outer s H vs Q E hr h => ?_)
  · obtain ⟨l, o, rfl, hl, hk, kk⟩ := h
    rfl
  · obtain ⟨l, o, rfl, hl, hk, kk⟩ := h
    have hr_Setting : Room 5 _ := hr.mono (by decide)
    refine ⟨_, (pss_one (ps_ret (pe_make T.m_Setting GSetting_init hr_Setting rfl T.g_Setting T.b_Setting_init .nil pass0 (pa_cons (pe_ix ix_tup (pv 0) pe_int (fun _ _ => rfl)) (pa_cons (pe_ix ix_tup (pv 0) pe_int (fun _ _ => rfl)) (pa_cons (pe_ix ix_tup (pv 0) pe_int (fun _ _ => rfl)) (pa_cons (pe_ix ix_tup (pv 0) pe_int (fun _ _ => rfl)) pa_nil))))))), ?_⟩
    have ix : ∀ (n : Nat) (v : V), o.vs[n]? = some v → atI o.vs (n : Int) = some v := fun n v q => atI_nat q
    refine ⟨_, rfl, l, o.vs, 0, o.sv, rfl, rfl, SqT.of hl, rfl, _, rfl, l, o.vs, 1, (.str o.h), rfl, rfl, SqT.of hl, rfl, _, rfl, l, o.vs, 2, (.str o.t), rfl, rfl, SqT.of hl, rfl, _, rfl, l, o.vs, 3, (.bl o.u), rfl, rfl, SqT.of hl, rfl, ?_⟩
    intro p dx np ndx ne
    have s1 : Same H (upd (upd H dx (.own p)) p (.ins A0.c_Setting dx [])) := (same_upd ndx).trans (same_upd (by rw [upd_ne ne.symm]; exact np))
    refine ⟨p, dx, o, rfl, upd_same, hk, fun H' k1 st => ⟨rfl, kk p H' (fun b' q' e => k1 _ _ (ne_of_none e np) (s1 _ _ e)) np st⟩⟩

end
end My

namespace My
open PySem PySem.Spec PyProof.Rows L2

local macro_rules | `(tactic| walk_at "rd") => `(tactic| (repeat (first
  | (refine ⟨_, rfl, ?_⟩) | (refine ⟨_, _, rfl, rfl, ?_⟩) | (refine ⟨_, _, rfl, ?_⟩) | (refine ⟨rfl, ?_⟩) | (refine ⟨⟨_, rfl⟩, ?_⟩)
  | (refine ⟨.inl (by decide), ?_⟩) | (refine ⟨.inr (by decide), ?_⟩) | (refine ⟨⟨by decide, by decide⟩, ?_⟩) | (refine ⟨⟨by decide, by decide, by decide⟩, ?_⟩) | (refine ⟨by decide, ?_⟩)
  | (refine ⟨(by show (0 : Int) < _; decide), ?_⟩)
  | (refine ⟨le_line rfl, ?_⟩) | (refine .inl ⟨_, rfl, ?_⟩) | (refine ⟨_, _, _, _, rfl, rfl, SqL.of (by assumption), rfl, ?_⟩))))


theorem alph : ∀ c, c < 128 → decide (c ∈ (PySem.Str.ofString "abcdefghijklmnopqrstuvwxyz").cps.toList) = decide (97 ≤ c ∧ c ≤ 122) := by decide +kernel
/-- the signs that are none -/
def odd1 (z : Str) : List Str := (z.cps.toList.filter fun c => !decide (97 ≤ c ∧ c ≤ 122)).map fun c => ⟨#[c]⟩
theorem odd_nil (z : Str) : (odd1 z = []) ↔ wordB z = true := by
  unfold odd1 wordB
  rw [List.map_eq_nil_iff, List.filter_eq_nil_iff, List.all_eq_true]
  constructor <;> intro h c hc <;> have := h c hc <;> simpa using this
theorem strs_dp {K : PySem.W.Frag} {H : Hp} : ∀ ys : List Str, DpAll K H (ys.map V.str) (ys.map .str)
  | [] => .nil
  | y :: r => .cons (.str _) (strs_dp r)
theorem strs_ok : ∀ ys : List Str, (∀ y ∈ ys, Abc y) → PyData.canLayAll0 (ys.map .str) = true ∧ PyData.depthAll (ys.map .str) ≤ 0
  | [], _ => ⟨rfl, Nat.zero_le _⟩
  | y :: r, h => by
    obtain ⟨i1, i2⟩ := strs_ok r fun x hx => h x (List.mem_cons_of_mem _ hx)
    have h0 : PyData.strOk y = true := by
      unfold PyData.strOk
      rw [Array.all_eq_true_iff_forall_mem]
      intro c hc
      have := h y (List.mem_cons_self ..) c (by simpa using hc)
      exact decide_eq_true (by omega)
    refine ⟨?_, ?_⟩
    · show (PyData.strOk y && PyData.canLayAll0 (r.map .str)) = true
      rw [h0, i1]
      rfl
    · show max 0 (PyData.depthAll (r.map .str)) ≤ 0
      omega
theorem strs_shaped {ys : List Str} (h : ∀ y ∈ ys, Abc y) : SeqAt.shaped (.list (ys.map .str)) = true := by
  obtain ⟨a, b⟩ := strs_ok ys h
  unfold SeqAt.shaped
  rw [Bool.and_eq_true]
  refine ⟨a, decide_eq_true ?_⟩
  show PyData.depthAll (ys.map .str) + 1 ≤ 64
  omega
theorem strs_eqv (ys : List Str) : PyData.eqv (.list (ys.map .str)) (.list []) = decide (ys = []) := by
  cases ys with
  | nil => rfl
  | cons y r => rw [decide_eq_false (fun q => nomatch q)]; rfl

def oddD (z : Str) : List Str := (z.cps.toList.filter fun c => !decide (48 ≤ c ∧ c ≤ 57)).map fun c => ⟨#[c]⟩
theorem digs : ∀ c, c < 128 → decide (c ∈ (PySem.Str.ofString "0123456789").cps.toList) = decide (48 ≤ c ∧ c ≤ 57) := by decide +kernel
theorem oddD_nil (z : Str) : (oddD z = []) ↔ digB z = true := by
  unfold oddD digB
  rw [List.map_eq_nil_iff, List.filter_eq_nil_iff, List.all_eq_true]
  constructor <;> intro h c hc <;> have := h c hc <;> simpa using this
def spTextB (f : Str → Bool) : Sp := fun vs H Q _ => ∃ z : Str, vs = [.str z] ∧ Abc z ∧ z.length ≤ 1000 ∧ ∀ H', Same H H' → Q (.bl (f z)) H'

theorem head_of {x : Str} (h : 0 < x.length) : ∃ c r, TL.tl x = c :: r := by
  rw [TL.len_tl] at h
  cases e : TL.tl x with
  | nil => rw [e] at h; cases h
  | cons c r => exact ⟨c, r, rfl⟩
theorem one_ne {c : Nat} : (!decide (V.str (⟨#[c]⟩ : Str) = V.str (PySem.Str.ofString "0"))) = !(c == 48) := by
  rw [show PySem.Str.ofString "0" = (⟨#[48]⟩ : Str) by decide +kernel]
  cases h : c == 48 with
  | true => rw [eq_of_beq h, decide_eq_true rfl]
  | false =>
    rw [decide_eq_false]
    intro q
    have q2 : [c] = [48] := congrArg (fun s : Str => s.cps.toList) (V.str.inj q)
    have q3 : c = 48 := by cases q2; rfl
    rw [q3] at h
    cases h

section
theorem ok_is_plain {K : PySem.W.Frag} {mg : Str → Option Value} {A0 : Ad} {P : Program} {w : World} {base : Heap} (T : Txt K mg A0) : FnOk P w K mg base CX0 1 A0.f_is_plain A0.d_is_plain ["_law_value"] (spTextB wordB) := by
  refine T.F_is_plain.ok sc_is_plain (fun vs H Q E h => ?_) (fun cdv A outer s H vs Q E hr h => ?_)
  · obtain ⟨z, rfl, hab, hz, kk⟩ := h
    rfl
  · obtain ⟨z, rfl, hab, hz, kk⟩ := h
    refine ⟨_, (pss_one (ps_ret (pe_cmpR (op_eqD hr.units) (pe_lc (own := [("_law_sign", 1)]) (g := gName 1) rfl sc_is_plain.nd (pi_str (pv 0)) (blkOk_by (own := [("_law_sign", 1)]) (N := N_is_plain) (sc := defScope s_is_plain) (by decide +kernel)) (fun _ _ _ _ _ => (pg_name (i := 1) sc_is_plain.nd rfl (Or.inl rfl))) (fun _ _ _ _ _ => (pts_one (pt_cmpR op_notIn_sign (pv 1) pe_str rfl))) (fun _ _ _ _ _ => by exact (pv 1))) (pe_lst pa_nil) (nomark _)))), ?_⟩
    refine ⟨_, rfl, z, rfl, fun D nD => ?_⟩
    have hzl : z.cps.toList.length = z.length := len_cps z
    refine lc_it walk_str (fun i H' => Same H H' ∧ ∃ ys : List Str, H' D = some (.lst (ys.map V.str)) ∧ ys = ((z.cps.toList.take i).filter fun c => !decide (97 ≤ c ∧ c ≤ 122)).map fun c => ⟨#[c]⟩)
      ⟨same_upd nD, [], upd_same, rfl⟩ (fun _ _ _ _ => trivial) (fun i x H1 H2 hi P1 Y1 => ?_) (fun H1 P1 => ?_)
    · obtain ⟨s1, ys, eD, ey⟩ := P1
      obtain ⟨rfl, c, ec, rfl⟩ := Y1
      have ec' : z.cps.toList[i]? = some c := by simpa using ec
      have hc : c < 128 := hab c (List.mem_of_getElem? ec')
      have tk : z.cps.toList.take (i + 1) = z.cps.toList.take i ++ [c] := by rw [List.take_add_one, ec']; rfl
      refine ⟨rfl, ?_⟩
      refine ⟨_, rfl, c, _, rfl, rfl, _, rfl, ?_⟩
      rw [alph c hc]
      refine ite2 (fun h1 => ?_) (fun h1 => ?_)
      · refine ⟨_, rfl, _, eD, ?_, fun b o e => by rw [upd_ne (ne_of_none e nD)]; exact s1 _ _ e, ys ++ [⟨#[c]⟩], ?_, ?_⟩
        · have hf := List.length_filter_le (fun c => !decide (97 ≤ c ∧ c ≤ 122)) (z.cps.toList.take i)
          rw [List.length_take] at hf
          rw [List.length_map, ey, List.length_map]
          exact Nat.lt_of_lt_of_le (show _ < 1001 by omega) (le_lineN (by omega))
        · rw [upd_same, List.map_append]
          rfl
        · rw [tk, List.filter_append, List.map_append, ey]
          congr 1
          rw [List.filter_cons, if_pos h1]
          rfl
      · refine ⟨s1, ys, eD, ?_⟩
        rw [tk, List.filter_append, List.map_append, ey, List.filter_cons, if_neg h1]
        simp
    · obtain ⟨s1, ys, eD, ey⟩ := P1
      rw [List.take_of_length_le (by rw [Array.length_toList]; exact Nat.le_refl _)] at ey
      have ey' : ys = odd1 z := ey
      walk_at "rd"
      intro L nL
      have s2 := same_upd (o := .lst []) nL
      have hsb : ∀ y ∈ ys, Abc y := fun y hy => by
        rw [ey] at hy
        obtain ⟨c, hc, rfl⟩ := List.mem_map.mp hy
        have hc' := hab c (List.mem_filter.mp hc).1
        intro d hd
        have : d = c := by simpa using hd
        omega
      refine ⟨_, _, .lst (SqL.of (s2 _ _ eD)) (strs_dp ys), .lst (SqL.of upd_same) .nil, strs_shaped hsb, by decide +kernel, ?_⟩
      rw [strs_eqv]
      have e3 : decide (ys = []) = wordB z := by
        rw [ey']
        cases ew : wordB z with
        | true => exact decide_eq_true ((odd_nil z).mpr ew)
        | false => exact decide_eq_false fun q => by rw [(odd_nil z).mp q] at ew; cases ew
      rw [e3]
      exact kk _ (s1.trans s2)

theorem ok_is_number_text {K : PySem.W.Frag} {mg : Str → Option Value} {A0 : Ad} {P : Program} {w : World} {base : Heap} (T : Txt K mg A0) : FnOk P w K mg base CX0 1 A0.f_is_number_text A0.d_is_number_text ["word"] (spTextB numB) := by
  refine T.F_is_number_text.ok sc_is_number_text (fun vs H Q E h => ?_) (fun cdv A outer s H vs Q E hr h => ?_)
  · obtain ⟨z, rfl, hab, hz, kk⟩ := h
    rfl
  · obtain ⟨z, rfl, hab, hz, kk⟩ := h
    refine ⟨_, (pss_cons (ps_if (pt_not (pt_val (pe_callB (cr_all rfl) (by rfl) T.z_all (by decide +kernel) (pa_cons (pe_lc (own := [("sign", 1)]) (g := gName 1) (tt := tYes) rfl sc_is_number_text.nd (pi_str (pv 0)) (blkOk_by (own := [("sign", 1)]) (N := N_is_number_text) (sc := defScope s_is_number_text) (by decide +kernel)) (fun _ _ _ _ _ => (pg_name (i := 1) sc_is_number_text.nd rfl (Or.inl rfl))) (fun _ _ _ _ _ => pts_nil) (fun _ _ _ _ _ => by exact (pe_chain op_le_str op_le_str pe_str (pv 1) pe_str))) pa_nil)))) (pss_one (ps_ret pe_bl)) pss_nil)
      (pss_one (ps_ret (pe_or (pe_cmpR op_eq (pe_callB call_len_str (by rfl) T.z_len (by decide +kernel) (pa_cons (pv 0) pa_nil)) pe_int (nomark _)) (pe_one (pe_and (pe_cmpR op_eq (pe_callB call_len_str (by rfl) T.z_len (by decide +kernel) (pa_cons (pv 0) pa_nil)) pe_int (nomark _)) (pe_one (pe_cmpR op_ne (pe_ix ix_str (pv 0) pe_int (fun _ _ => rfl)) pe_str (nomark _))))))))), ?_⟩
    refine ⟨_, rfl, z, rfl, fun D nD => ?_⟩
    have hzl : z.cps.toList.length = z.length := len_cps z
    refine lc_it walk_str (fun i H' => Same H H' ∧ H' D = some (.lst (((z.cps.toList.take i).map fun c => decide (48 ≤ c ∧ c ≤ 57)).map V.bl)))
      ⟨same_upd nD, upd_same⟩ (fun _ _ _ _ => trivial) (fun i x H1 H2 hi P1 Y1 => ?_) (fun H1 P1 => ?_)
    · obtain ⟨s1, eD⟩ := P1
      obtain ⟨rfl, c, ec, rfl⟩ := Y1
      have ec' : z.cps.toList[i]? = some c := by simpa using ec
      have fin : ∀ k : Bool, k = decide (48 ≤ c ∧ c ≤ 57) → ∃ acc, H2 D = some (.lst acc) ∧ acc.length < sizeLine ∧ (Same H (upd H2 D (.lst (acc ++ [.bl k]))) ∧
          (upd H2 D (.lst (acc ++ [.bl k]))) D = some (.lst (((z.cps.toList.take (i + 1)).map fun c => decide (48 ≤ c ∧ c ≤ 57)).map V.bl))) := by
        intro k ek
        refine ⟨_, eD, ?_, fun b o e => by rw [upd_ne (ne_of_none e nD)]; exact s1 _ _ e, ?_⟩
        · rw [List.length_map, List.length_map, List.length_take]
          exact Nat.lt_of_lt_of_le (show min i z.cps.toList.length < 1001 by omega) (le_lineN (by omega))
        · rw [upd_same, List.take_add_one, ec', List.map_append, List.map_append, ek]
          rfl
      refine ⟨rfl, ?_⟩
      refine ⟨_, rfl, _, _, rfl, rfl, _, rfl, ?_⟩
      rw [show (PySem.Str.ofString "0").cps.toList = [48] by decide +kernel, sign_le]
      refine ite2 (fun h1 => ?_) (fun h1 => ?_)
      · refine ⟨_, _, rfl, rfl, ?_⟩
        rw [show (PySem.Str.ofString "9").cps.toList = [57] by decide +kernel, sign_ge]
        have h1' : 48 ≤ c := of_decide_eq_true h1
        exact fin _ (by
          by_cases h2 : c ≤ 57
          · rw [decide_eq_true h2, decide_eq_true ⟨h1', h2⟩]
          · rw [decide_eq_false h2, decide_eq_false (fun z => h2 z.2)])
      · have h1' : ¬ 48 ≤ c := fun q => h1 (decide_eq_true q)
        exact fin _ (decide_eq_false (fun q => h1' q.1)).symm
    · obtain ⟨s1, eD⟩ := P1
      rw [List.take_of_length_le (by rw [Array.length_toList]; exact Nat.le_refl _)] at eD
      refine ⟨D, _, rfl, SqL.of eD, ?_⟩
      rw [List.all_map]
      refine ⟨digB z, rfl, ?_⟩
      have kk := kk H1 s1
      unfold numB at kk
      cases ed : digB z with
      | false =>
        rw [ed] at kk
        exact iteT' rfl kk
      | true =>
        rw [ed] at kk
        refine iteF' rfl ?_
        refine ⟨_, rfl, z, rfl, le_lineN (by omega), rfl, _, rfl, ?_⟩
        by_cases e1 : z.length = 1
        · rw [e1] at kk ⊢
          exact iteT' rfl kk
        · rw [show (z.length == 1) = false from beq_eq_false_iff_ne.mpr e1] at kk
          refine iteF' (decide_eq_false (fun q => e1 (Int.ofNat.inj (V.int.inj q)))) ?_
          refine ⟨_, rfl, z, rfl, le_lineN (by omega), rfl, _, rfl, ?_⟩
          by_cases e2 : z.length = 2
          · rw [e2] at kk
            refine iteT' (by rw [e2]; rfl) ?_
            obtain ⟨c, r, ez⟩ := head_of (x := z) (by omega)
            refine ⟨_, rfl, z, 0, c, rfl, rfl, le_lineN (by omega), by rw [show z.cps.toList = c :: r from ez]; exact atI_nat (xs := c :: r) rfl, rfl, ?_⟩
            have : hd1 z 48 = (c == 48) := by unfold hd1; rw [ez]
            rw [this] at kk
            rw [one_ne]
            exact kk
          · rw [show (z.length == 2) = false from beq_eq_false_iff_ne.mpr e2] at kk
            exact iteF' (decide_eq_false (fun q => e2 (Int.ofNat.inj (V.int.inj q)))) kk

theorem ok_lis_number {K : PySem.W.Frag} {mg : Str → Option Value} {A0 : Ad} {P : Program} {w : World} {base : Heap} (T : Txt K mg A0) : FnOk P w K mg base CX0 1 A0.f_lis_number A0.d_lis_number ["_law_word"] (spTextB numB) := by
  refine T.F_lis_number.ok sc_lis_number (fun vs H Q E h => ?_) (fun cdv A outer s H vs Q E hr h => ?_)
  · obtain ⟨z, rfl, hab, hz, kk⟩ := h
    rfl
  · obtain ⟨z, rfl, hab, hz, kk⟩ := h
    refine ⟨_, (pss_cons (ps_if (PW.pt (pw_or (pt_not (pt_chain op_lt op_lt pe_int (pe_callB call_len_str (by rfl) T.z_len (by decide +kernel) (pa_cons (pv 0) pa_nil)) pe_int)) (pw_or1 (pt_cmpR (op_neD hr.units) (pe_lc (own := [("_law_sign", 1)]) (g := gName 1) rfl sc_lis_number.nd (pi_str (pv 0)) (blkOk_by (own := [("_law_sign", 1)]) (N := N_lis_number) (sc := defScope s_lis_number) (by decide +kernel)) (fun _ _ _ _ _ => (pg_name (i := 1) sc_lis_number.nd rfl (Or.inl rfl))) (fun _ _ _ _ _ => (pts_one (pt_cmpR op_notIn_sign (pv 1) pe_str rfl))) (fun _ _ _ _ _ => by exact (pv 1))) (pe_lst pa_nil) (nomark _))))) (pss_one (ps_ret pe_bl)) pss_nil)
      (pss_one (ps_ret (pe_or (pe_cmpR op_eq (pe_callB call_len_str (by rfl) T.z_len (by decide +kernel) (pa_cons (pv 0) pa_nil)) pe_int (nomark _)) (pe_one (pe_cmpR op_ne (pe_ix ix_str (pv 0) pe_int (fun _ _ => rfl)) pe_str (nomark _))))))), ?_⟩
    refine ⟨_, rfl, z, rfl, le_lineN (by omega), _, _, rfl, rfl, ?_⟩
    have kf : (numB z = false) → ∀ H', Same H H' → Q (.bl false) H' := fun e H' s' => by have := kk H' s'; rw [e] at this; exact this
    refine ⟨_, rfl, ?_⟩
    by_cases h0 : 0 < z.length
    · refine iteT' (decide_eq_true (by omega)) ?_
      refine ⟨_, _, rfl, rfl, _, rfl, ?_⟩
      by_cases h3 : z.length < 3
      · refine iteF' (by rw [decide_eq_true (by omega)]; rfl) ?_
        refine ⟨_, rfl, z, rfl, fun D nD => ?_⟩
        have hzl : z.cps.toList.length = z.length := len_cps z
        refine lc_it walk_str (fun i H' => Same H H' ∧ ∃ ys : List Str, H' D = some (.lst (ys.map V.str)) ∧ ys = ((z.cps.toList.take i).filter fun c => !decide (48 ≤ c ∧ c ≤ 57)).map fun c => ⟨#[c]⟩)
          ⟨same_upd nD, [], upd_same, rfl⟩ (fun _ _ _ _ => trivial) (fun i x H1 H2 hi P1 Y1 => ?_) (fun H1 P1 => ?_)
        · obtain ⟨s1, ys, eD, ey⟩ := P1
          obtain ⟨rfl, c, ec, rfl⟩ := Y1
          have ec' : z.cps.toList[i]? = some c := by simpa using ec
          have hc : c < 128 := hab c (List.mem_of_getElem? ec')
          have tk : z.cps.toList.take (i + 1) = z.cps.toList.take i ++ [c] := by rw [List.take_add_one, ec']; rfl
          refine ⟨rfl, ?_⟩
          refine ⟨_, rfl, c, _, rfl, rfl, _, rfl, ?_⟩
          rw [digs c hc]
          refine ite2 (fun h1 => ?_) (fun h1 => ?_)
          · refine ⟨_, rfl, _, eD, ?_, fun b o e => by rw [upd_ne (ne_of_none e nD)]; exact s1 _ _ e, ys ++ [⟨#[c]⟩], ?_, ?_⟩
            · have hf := List.length_filter_le (fun c => !decide (48 ≤ c ∧ c ≤ 57)) (z.cps.toList.take i)
              rw [List.length_take] at hf
              rw [List.length_map, ey, List.length_map]
              exact Nat.lt_of_lt_of_le (show _ < 1001 by omega) (le_lineN (by omega))
            · rw [upd_same, List.map_append]
              rfl
            · rw [tk, List.filter_append, List.map_append, ey]
              congr 1
              rw [List.filter_cons, if_pos h1]
              rfl
          · refine ⟨s1, ys, eD, ?_⟩
            rw [tk, List.filter_append, List.map_append, ey, List.filter_cons, if_neg h1]
            simp
        · obtain ⟨s1, ys, eD, ey⟩ := P1
          rw [List.take_of_length_le (by rw [Array.length_toList]; exact Nat.le_refl _)] at ey
          have ey' : ys = oddD z := ey
          walk_at "rd"
          intro L nL
          have s2 := same_upd (o := .lst []) nL
          have hsb : ∀ y ∈ ys, Abc y := fun y hy => by
            rw [ey] at hy
            obtain ⟨c, hc, rfl⟩ := List.mem_map.mp hy
            have hc' := hab c (List.mem_filter.mp hc).1
            intro d hd
            have : d = c := by simpa using hd
            omega
          refine ⟨_, _, .lst (SqL.of (s2 _ _ eD)) (strs_dp ys), .lst (SqL.of upd_same) .nil, strs_shaped hsb, by decide +kernel, ?_⟩
          rw [strs_eqv]
          have e3 : decide (ys = []) = digB z := by
            rw [ey']
            cases ew : digB z with
            | true => exact decide_eq_true ((oddD_nil z).mpr ew)
            | false => exact decide_eq_false fun q => by rw [(oddD_nil z).mp q] at ew; cases ew
          rw [e3]
          have s12 := s1.trans s2
          have kk := kk _ s12
          unfold numB at kk
          refine ⟨_, rfl, ?_⟩
          cases ed : digB z with
          | false =>
            rw [ed] at kk
            refine iteT' rfl ?_
            exact kk
          | true =>
            rw [ed] at kk
            refine iteF' rfl ?_
            refine ⟨_, rfl, z, rfl, le_lineN (by omega), rfl, _, rfl, ?_⟩
            by_cases e1 : z.length = 1
            · rw [e1] at kk ⊢
              exact iteT' rfl kk
            · have e2 : z.length = 2 := by omega
              rw [e2] at kk
              refine iteF' (decide_eq_false (fun q => e1 (Int.ofNat.inj (V.int.inj q)))) ?_
              obtain ⟨c, r, ez⟩ := head_of (x := z) (by omega)
              refine ⟨_, rfl, z, 0, c, rfl, rfl, le_lineN (by omega), by rw [show z.cps.toList = c :: r from ez]; exact atI_nat (xs := c :: r) rfl, rfl, ?_⟩
              have : hd1 z 48 = (c == 48) := by unfold hd1; rw [ez]
              rw [this] at kk
              rw [one_ne]
              exact kk
      · refine iteT' (by rw [decide_eq_false (by omega)]; rfl) ?_
        refine iteT' rfl ?_
        refine kf ?_ _ (Same.refl _)
        unfold numB
        rw [show (z.length == 1) = false from beq_eq_false_iff_ne.mpr (by omega), show (z.length == 2) = false from beq_eq_false_iff_ne.mpr (by omega), Bool.false_and, Bool.or_false, Bool.and_false]
    · refine iteF' (decide_eq_false (by omega)) ?_
      refine ⟨_, rfl, ?_⟩
      refine iteT' rfl ?_
      refine iteT' rfl ?_
      refine kf ?_ _ (Same.refl _)
      unfold numB
      rw [show (z.length == 1) = false from beq_eq_false_iff_ne.mpr (by omega), show (z.length == 2) = false from beq_eq_false_iff_ne.mpr (by omega), Bool.false_and, Bool.or_false, Bool.and_false]

end
end My

namespace My
open PySem PySem.Spec PyProof.Rows L2

local macro_rules | `(tactic| walk_at "rd") => `(tactic| (repeat (first
  | (refine ⟨_, rfl, ?_⟩) | (refine ⟨_, _, rfl, rfl, ?_⟩) | (refine ⟨_, _, rfl, ?_⟩) | (refine ⟨rfl, ?_⟩) | (refine ⟨⟨_, rfl⟩, ?_⟩)
  | (refine ⟨.inl (by decide), ?_⟩) | (refine ⟨.inr (by decide), ?_⟩) | (refine ⟨⟨by decide, by decide⟩, ?_⟩) | (refine ⟨⟨by decide, by decide, by decide⟩, ?_⟩) | (refine ⟨by decide, ?_⟩)
  | (refine ⟨(by show (0 : Int) < _; decide), ?_⟩)
  | (refine ⟨le_line rfl, ?_⟩) | (refine .inl ⟨_, rfl, ?_⟩) | (refine ⟨_, _, _, _, rfl, rfl, SqL.of (by assumption), rfl, ?_⟩))))


def valN (x : Str) : Int := match PySem.intText? x with | some n => n | none => 0
def numPart (m : Str) : Str := if hd1 m 126 = true then tl1 m else m
def good3 (h m t : Str) : Bool := wordB h && (wordB t && ((decide (m = "-") && decide (t = "")) || numB (numPart m)))
def soOf (h m t : Str) : So := if m = "-" ∧ t = "" then ⟨none, h, Str.empty, false⟩ else ⟨some (valN (numPart m)), h, t, hd1 m 126⟩
@[irreducible] def parse (x : Str) : Option So := match Txt.split x "." with
  | [h, m, t] => if good3 h m t = true then some (soOf h m t) else none
  | _ => none
theorem dot_tl : TL.tl (PySem.Str.ofString ".") = [46] := by decide +kernel
theorem dot_k : (PySem.Str.ofString ".").cps.all (· < 256) = true := by decide +kernel
theorem parse3 {x h m t : Str} (e : Txt.split x "." = [h, m, t]) : parse x = if good3 h m t = true then some (soOf h m t) else none := by
  unfold parse
  rw [e]
theorem parse0 {x : Str} (e : (Txt.split x ".").length ≠ 3) : parse x = none := by
  unfold parse
  split
  · rename_i q
    rw [q] at e
    exact absurd rfl e
  · rfl
theorem til_tl : TL.tl (PySem.Str.ofString "~") = [126] := by decide +kernel
theorem hd_app {m : Str} (h : hd1 m 126 = true) : m = ("~" : Str) ++ tl1 m := by
  refine tl_inj ?_
  rw [TL.tl_append, til_tl]
  unfold hd1 at h
  show TL.tl m = [126] ++ (TL.tl m).drop 1
  cases e : TL.tl m with
  | nil => rw [e] at h; cases h
  | cons d r =>
    rw [e] at h
    have : d = 126 := eq_of_beq h
    rw [this]
    rfl
theorem dash_num : numB (numPart "-") = false := by decide +kernel
theorem parse_ok {x : Str} {o : So} (hx : x.length ≤ 100) (h : parse x = some o) : o.ok ∧ o.txt = x := by
  by_cases hl : (Txt.split x ".").length = 3
  · obtain ⟨a, b, d, e⟩ : ∃ a b d, Txt.split x "." = [a, b, d] := by
      match hp : Txt.split x ".", hl with
      | [a, b, d], _ => exact ⟨a, b, d, rfl⟩
    rw [parse3 e] at h
    have hs := split_3 dot_tl dot_k e
    by_cases hg : good3 a b d = true
    · rw [if_pos hg] at h
      have ho := (Option.some.inj h).symm
      unfold good3 at hg
      rw [Bool.and_eq_true, Bool.and_eq_true, Bool.or_eq_true, Bool.and_eq_true] at hg
      obtain ⟨w1, w2, hg⟩ := hg
      have l1 : a.length ≤ 100 ∧ d.length ≤ 100 := by
        rw [hs, app_len, app_len, app_len, app_len] at hx
        omega
      unfold soOf at ho
      by_cases hm : b = "-" ∧ d = ""
      · rw [if_pos hm] at ho
        subst ho
        refine ⟨⟨w1, rfl, l1.1, Nat.zero_le _, (fun i q => nomatch q), fun _ => ⟨rfl, rfl⟩⟩, ?_⟩
        rw [hs, hm.1, hm.2]
        unfold So.txt
        rfl
      · rw [if_neg hm] at ho
        have hn : numB (numPart b) = true := by
          rcases hg with ⟨g1, g2⟩ | g
          · exact absurd ⟨of_decide_eq_true g1, of_decide_eq_true g2⟩ hm
          · exact g
        obtain ⟨n, n9, en⟩ := num_of hn
        have ev : valN (numPart b) = (n : Int) := by unfold valN; rw [en, int_of n9]
        rw [ev] at ho
        subst ho
        refine ⟨⟨w1, w2, l1.1, l1.2, (fun i q => by cases q; omega), (fun q => nomatch q)⟩, ?_⟩
        have eb : b = (if hd1 b 126 = true then ("~" : Str) else Str.empty) ++ (toString ((n : Nat) : Int) : String) := by
          unfold numPart at en
          cases hh : hd1 b 126 with
          | true =>
            rw [hh, if_pos rfl] at en
            rw [if_pos rfl, ← en]
            exact hd_app hh
          | false =>
            rw [hh, if_neg (by decide)] at en
            rw [if_neg (by decide), emp_app, ← en]
        unfold So.txt
        show a ++ "." ++ ((if hd1 b 126 = true then ("~" : Str) else Str.empty) ++ (toString ((n : Nat) : Int) : String)) ++ "." ++ d = x
        rw [← eb]
        exact hs.symm
    · rw [if_neg hg] at h
      cases h
  · rw [parse0 hl] at h
    cases h
theorem mark_no : ∀ n, n < 100 → (46 ∉ TL.tl (PySem.Str.ofString (toString ((n : Nat) : Int)))) ∧ hd1 (PySem.Str.ofString (toString ((n : Nat) : Int))) 126 = false ∧ PySem.Str.ofString (toString ((n : Nat) : Int)) ≠ "-" := by decide +kernel
theorem word_no {y : Str} (w : wordB y = true) : 46 ∉ TL.tl y := fun h => by
  have := of_decide_eq_true (List.all_eq_true.mp w 46 h)
  omega
theorem tl_tilde (m : Str) : hd1 (("~" : Str) ++ m) 126 = true ∧ tl1 (("~" : Str) ++ m) = m := by
  constructor
  · unfold hd1
    rw [TL.tl_append, til_tl]
    rfl
  · refine tl_inj ?_
    show (TL.tl (("~" : Str) ++ m)).drop 1 = _
    rw [TL.tl_append, til_tl]
    rfl
theorem parse_txt {o : So} (h : o.ok) : parse o.txt = some o := by
  obtain ⟨s, a, d, u⟩ := o
  have w1 : wordB a = true := h.wh
  have w2 : wordB d = true := h.wt
  cases s with
  | none =>
    obtain ⟨e1, e2⟩ := h.no rfl
    have e1 : d = Str.empty := e1
    have e2 : u = false := e2
    subst e1 e2
    have e : Txt.split (So.txt ⟨none, a, Str.empty, false⟩) "." = [a, "-", Str.empty] := by
      unfold So.txt
      exact split_of3 dot_tl dot_k (word_no w1) (by decide +kernel) (word_no w2)
    rw [parse3 e]
    have g : good3 a "-" Str.empty = true := by
      unfold good3
      rw [w1, w2]
      decide +kernel
    rw [if_pos g]
    unfold soOf
    rw [if_pos ⟨rfl, by decide +kernel⟩]
  | some i =>
    obtain ⟨i0, i1⟩ := h.lo i rfl
    obtain ⟨n, rfl⟩ : ∃ n : Nat, i = (n : Int) := ⟨i.toNat, by omega⟩
    have hn : n < 100 := by omega
    obtain ⟨m1, m2, m3⟩ := mark_no n hn
    have key : ∀ m : Str, 46 ∉ TL.tl m → m ≠ "-" → hd1 m 126 = u → numPart m = PySem.Str.ofString (toString ((n : Nat) : Int)) → So.txt ⟨some (n : Int), a, d, u⟩ = a ++ "." ++ m ++ "." ++ d → parse (So.txt ⟨some (n : Int), a, d, u⟩) = some ⟨some (n : Int), a, d, u⟩ := by
      intro m hm hd hh hp et
      have e : Txt.split (So.txt ⟨some (n : Int), a, d, u⟩) "." = [a, m, d] := by
        rw [et]
        exact split_of3 dot_tl dot_k (word_no w1) hm (word_no w2)
      rw [parse3 e]
      have g : good3 a m d = true := by
        unfold good3
        rw [w1, w2, hp, numB_of n hn, Bool.or_true]
        rfl
      rw [if_pos g]
      unfold soOf
      rw [if_neg (fun q => hd q.1), hp, hh]
      have : valN (PySem.Str.ofString (toString ((n : Nat) : Int))) = (n : Int) := by unfold valN; rw [int_of (by omega)]
      rw [this]
    cases u with
    | true =>
      obtain ⟨t1, t2⟩ := tl_tilde (PySem.Str.ofString (toString ((n : Nat) : Int)))
      refine key (("~" : Str) ++ (toString ((n : Nat) : Int) : String)) ?_ ?_ t1 ?_ ?_
      · rw [TL.tl_append, til_tl]
        intro q
        rcases List.mem_append.mp q with q | q
        · revert q; decide
        · exact m1 q
      · intro q
        rw [q] at t1
        revert t1
        decide +kernel
      · unfold numPart
        rw [t1, if_pos rfl, t2]
      · unfold So.txt
        rfl
    | false =>
      refine key (PySem.Str.ofString (toString ((n : Nat) : Int))) m1 m3 m2 ?_ ?_
      · unfold numPart
        rw [m2, if_neg (by decide)]
      · unfold So.txt
        show a ++ "." ++ ((if false = true then ("~" : Str) else Str.empty) ++ (toString ((n : Nat) : Int) : String)) ++ "." ++ d = _
        rw [if_neg (by decide), emp_app]

section
end
end My

namespace My
open PySem PySem.Spec PyProof.Rows L2

local macro_rules | `(tactic| walk_at "rd") => `(tactic| (repeat (first
  | (refine ⟨_, rfl, ?_⟩) | (refine ⟨_, _, rfl, rfl, ?_⟩) | (refine ⟨_, _, rfl, ?_⟩) | (refine ⟨rfl, ?_⟩) | (refine ⟨⟨_, rfl⟩, ?_⟩)
  | (refine ⟨.inl (by decide), ?_⟩) | (refine ⟨.inr (by decide), ?_⟩) | (refine ⟨⟨by decide, by decide⟩, ?_⟩) | (refine ⟨⟨by decide, by decide, by decide⟩, ?_⟩) | (refine ⟨by decide, ?_⟩)
  | (refine ⟨(by show (0 : Int) < _; decide), ?_⟩)
  | (refine ⟨le_line rfl, ?_⟩) | (refine .inl ⟨_, rfl, ?_⟩) | (refine ⟨_, _, _, _, rfl, rfl, SqL.of (by assumption), rfl, ?_⟩))))


theorem numPart_len (b : Str) : (numPart b).length ≤ b.length := by
  unfold numPart
  cases hd1 b 126 with
  | false => exact Nat.le_refl _
  | true =>
    show (tl1 b).length ≤ _
    rw [TL.len_tl, TL.len_tl]
    show ((TL.tl b).drop 1).length ≤ _
    rw [List.length_drop]
    omega
theorem numPart_abc {b : Str} (h : Abc b) : Abc (numPart b) := by
  unfold numPart
  cases hd1 b 126 with
  | false => exact h
  | true =>
    intro c hc
    have hc : c ∈ (TL.tl b).drop 1 := hc
    exact h c (List.mem_of_mem_drop hc)
def spAT (K : PySem.W.Frag) (C : Addr) : Sp := fun vs H Q _ => ∃ (a : Addr) (v : V), vs = [.ref a, v] ∧ H a = some (exo a C none) ∧ OexC K C ∧ PySem.W.findIn K (.ref C) "at" = some none ∧
  ∀ dx, H dx = none → dx ≠ a → Q .non (upd (upd H dx (exd dx [("at", v)])) a (exo a C (some dx)))
def spRead (C CI : Addr) : Sp := fun vs H Q E => ∃ x : Str, vs = [.ref C, .str x] ∧ Abc x ∧ x.length ≤ 100 ∧
  (∀ o, parse x = some o → ∀ p H', Same H H' → H p = none → SetAt C H' p o → Q (.ref p) H') ∧
  (parse x = none → ∀ d H', Same H H' → H d = none → H' d = some (.xd [("at", .int 0)]) → E (.ref CI) (some d) H')

section
theorem ok_InvalidText_init {K : PySem.W.Frag} {mg : Str → Option Value} {A0 : Ad} {P : Program} {w : World} {base : Heap} (T : Txt K mg A0) : FnOk P w K mg base CX0 1 A0.f_InvalidText_init A0.d_InvalidText_init ["self", "at"] (spAT K A0.c_InvalidText) := by
  refine T.F_InvalidText_init.ok sc_InvalidText_init (fun vs H Q E h => ?_) (fun cdv A outer s H vs Q E hr h => ?_)
  · obtain ⟨a, v, rfl, ha, hO, hn, kk⟩ := h
    rfl
  · obtain ⟨a, v, rfl, ha, hO, hn, kk⟩ := h
    refine ⟨_, (pss_one (ps_ost (pv 0) (pv 1))), ?_⟩
    refine ⟨_, rfl, _, rfl, a, _, rfl, hO, hn, .inl ⟨ha, fun dx n ne => ?_⟩⟩
    exact kk dx n ne

theorem ok_Setting_read {K : PySem.W.Frag} {mg : Str → Option Value} {A0 : Ad} {P : Program} {w : World} {base : Heap} (T : Txt K mg A0) : FnOk P w K mg base (L2.CX P w) 6 A0.f_Setting_read A0.d_Setting_read ["cls", "text"] (spRead A0.c_Setting A0.c_InvalidText) := by
  have Gis_number_text := ok_is_number_text (P := P) (w := w) (base := base) T
  have Gis_word := ok_is_word (P := P) (w := w) (base := base) T
  have GInvalidText_init := ok_InvalidText_init (P := P) (w := w) (base := base) T
  have GSetting_init := ok_Setting_init (P := P) (w := w) (base := base) T
  obtain ⟨ds3, V3, Bd3⟩ := T.b3_Setting_init
  refine T.F_Setting_read.okX sc_Setting_read (fun vs H Q E h => ?_) (fun cdv A outer s H vs Q E hr h => ?_)
  · obtain ⟨x, rfl, hab, hx, kk, ke⟩ := h
    rfl
  · obtain ⟨x, rfl, hab, hx, kk, ke⟩ := h
    have hr_is_number_text : Room 1 _ := hr.mono (by decide)
    have hr_is_word : Room 1 _ := hr.mono (by decide)
    have hr_InvalidText_init : Room 1 _ := hr.mono (by decide)
    have hr_Setting_init : Room 4 _ := hr.mono (by decide)
    have hr_InvalidText_init : Room 2 _ := hr.mono (by decide)
    have hr_S1 : Room 5 _ := hr.mono (by decide)
    refine ⟨_, (pss_cons (ps_set (i := 2) sc_Setting_read.nd rfl (Or.inl rfl) (pe_split (pv 1) pe_str))
      (pss_cons (ps_if (PW.pt (pw_or (pt_cmpR op_ne (pe_callB call_len_seq (by rfl) T.z_len (by decide +kernel) (pa_cons (pv 2) pa_nil)) pe_int (nomark _)) (pw_or (pt_not (pt_val (pe_call Gis_word hr_is_word rfl T.g_is_word T.k_is_word T.b_is_word .nil pass0 (pa_cons (pe_ix ix_list (pv 2) pe_int (fun _ _ => rfl)) pa_nil)))) (pw_or1 (pt_not (pt_val (pe_call Gis_word hr_is_word rfl T.g_is_word T.k_is_word T.b_is_word .nil pass0 (pa_cons (pe_ix ix_list (pv 2) pe_int (fun _ _ => rfl)) pa_nil)))))))) (pss_one (ps_raise rfl (takes_of rfl rfl rfl rfl) (pmk_oex T.o_InvalidText T.i_InvalidText T.t_InvalidText GInvalidText_init hr_InvalidText_init T.b_InvalidText_init .nil pass0 rfl T.g_InvalidText (pa_cons pe_int pa_nil)))) pss_nil)
      (pss_cons (ps_asg (pv 2) (pg_lst rfl (pgs_cons (pg_name (i := 3) sc_Setting_read.nd rfl (Or.inl rfl)) (pgs_cons (pg_name (i := 4) sc_Setting_read.nd rfl (Or.inl rfl)) (pgs_cons (pg_name (i := 5) sc_Setting_read.nd rfl (Or.inl rfl)) pgs_nil)))))
      (pss_cons (ps_if (PW.pt (pw_and (pt_cmpR op_eq (pv 4) pe_str (nomark _)) (pw_and1 (pt_cmpR op_eq (pv 5) pe_str (nomark _))))) (pss_one (ps_ret (pe_makeV (i := 0) (E := fun _ _ _ _ => False) T.m_Setting GSetting_init hr_S1 rfl (Or.inl rfl) Bd3 V3 (fun _ _ _ _ _ _ _ h => h.elim) (pa_cons pe_non (pa_cons (pv 3) pa_nil))))) pss_nil)
      (pss_cons (ps_set (i := 6) sc_Setting_read.nd rfl (Or.inl rfl) (pe_bm PySem.F.plainAttrs_str PySem.F.slot_str_removeprefix PySem.F.type_str_removeprefix mt_removeprefix (pv 4) (pa_cons pe_str pa_nil)))
      (pss_cons (ps_if (pt_not (pt_val (pe_call Gis_number_text hr_is_number_text rfl T.g_is_number_text T.k_is_number_text T.b_is_number_text .nil pass0 (pa_cons (pv 6) pa_nil)))) (pss_one (ps_raise rfl (takes_of rfl rfl rfl rfl) (pmk_oex T.o_InvalidText T.i_InvalidText T.t_InvalidText GInvalidText_init hr_InvalidText_init T.b_InvalidText_init .nil pass0 rfl T.g_InvalidText (pa_cons pe_int pa_nil)))) pss_nil)
      (pss_one (ps_ret (pe_makeV (i := 0) (E := fun _ _ _ _ => False) T.m_Setting GSetting_init hr_S1 rfl (Or.inl rfl) T.b_Setting_init .nil (fun _ _ _ _ _ _ _ h => h.elim) (pa_cons (pe_callTy call_int_str (by rfl) T.z_int (by decide +kernel) (pa_cons (pv 6) pa_nil)) (pa_cons (pv 3) (pa_cons (pv 5) (pa_cons (pe_m1 PySem.F.slot_str_startswith PySem.F.type_str_startswith mt_startswith (pv 4) pe_str) pa_nil))))))))))))), ?_⟩
    refine ⟨_, rfl, ⟨_, rfl⟩, x, ".", rfl, rfl, by decide +kernel, le_lineN (by omega), fun W nW => ?_⟩
    have sW := same_upd (o := .lst ((Txt.split x ".").map V.str)) nW
    have eW : (upd H W (.lst ((Txt.split x ".").map V.str))) W = some (.lst ((Txt.split x ".").map V.str)) := upd_same
    refine ⟨_, rfl, W, _, rfl, .inl (SqL.of eW), rfl, _, rfl, ?_⟩
    by_cases hl : (Txt.split x ".").length = 3
    · obtain ⟨a, b, d, e⟩ : ∃ a b d, Txt.split x "." = [a, b, d] := by
        match hp : Txt.split x ".", hl with
        | [a, b, d], _ => exact ⟨a, b, d, rfl⟩
      refine iteF' (by rw [List.length_map, hl]; rfl) ?_
      have hs := split_3 dot_tl dot_k e
      have hlen := hx
      rw [hs, app_len, app_len, app_len, app_len] at hlen
      have inx : ∀ c ∈ x.cps.toList, c < 128 := hab
      rw [hs, app_cps, app_cps, app_cps, app_cps] at inx
      have aa : Abc a := fun c hc => inx c (by simp [hc])
      have ab : Abc b := fun c hc => inx c (by simp [hc])
      have ad : Abc d := fun c hc => inx c (by simp [hc])
      rw [e] at eW sW ⊢
      have px := parse3 e
      refine ⟨_, rfl, W, _, 0, .str a, rfl, rfl, SqL.of eW, rfl, .str a, _, rfl, .str a ⟨aa, by omega⟩, fun H1 s1 => ?_⟩
      have sW1 := sW.trans s1
      have eW1 := s1 _ _ eW
      refine ⟨_, rfl, ?_⟩
      cases e1 : wordB a with
      | false =>
        refine iteT' (by rw [show isWord (.str a) = wordB a from rfl, e1]; rfl) ?_
        refine iteT' rfl ?_
        have hn : parse x = none := by rw [px]; unfold good3; rw [e1]; rfl
        refine ⟨by show 1 ≤ 1000; decide, fun ea na => ⟨ea, _, rfl, upd_same, T.o_InvalidText, T.n_InvalidText, fun d2 n2 ne2 => ?_⟩⟩
        have n1 : H1 d2 = none := by rw [upd_ne ne2] at n2; exact n2
        refine ⟨rfl, d2, _, upd_same, (upd_ne ne2).trans upd_same, n1, ?_⟩
        refine ke hn d2 _ (fun b o q => ?_) (sW1.free n1) upd_same
        have q1 := sW1 _ _ q
        have nb1 : b ≠ ea := ne_of_none q1 na
        have nb2 : b ≠ d2 := ne_of_none q1 n1
        rw [upd_ne nb2, del_ne nb1, upd_ne nb1, upd_ne nb2, upd_ne nb1]
        exact q1
      | true =>
        refine iteF' (by rw [show isWord (.str a) = wordB a from rfl, e1]; rfl) ?_
        refine ⟨_, rfl, W, _, 2, .str d, rfl, rfl, SqL.of eW1, rfl, .str d, _, rfl, .str d ⟨ad, by omega⟩, fun H2 s2 => ?_⟩
        have sW2 := sW1.trans s2
        have eW2 := s2 _ _ eW1
        refine ⟨_, rfl, ?_⟩
        cases e2 : wordB d with
        | false =>
          refine iteT' (by rw [show isWord (.str d) = wordB d from rfl, e2]; rfl) ?_
          have hn : parse x = none := by rw [px]; unfold good3; rw [e1, e2]; rfl
          refine ⟨by show 1 ≤ 1000; decide, fun ea na => ⟨ea, _, rfl, upd_same, T.o_InvalidText, T.n_InvalidText, fun d2 n2 ne2 => ?_⟩⟩
          have n1 : H2 d2 = none := by rw [upd_ne ne2] at n2; exact n2
          refine ⟨rfl, d2, _, upd_same, (upd_ne ne2).trans upd_same, n1, ?_⟩
          refine ke hn d2 _ (fun b o q => ?_) (sW2.free n1) upd_same
          have q1 := sW2 _ _ q
          have nb1 : b ≠ ea := ne_of_none q1 na
          have nb2 : b ≠ d2 := ne_of_none q1 n1
          rw [upd_ne nb2, del_ne nb1, upd_ne nb1, upd_ne nb2, upd_ne nb1]
          exact q1
        | true =>
          refine iteF' (by rw [show isWord (.str d) = wordB d from rfl, e2]; rfl) ?_
          refine ⟨_, rfl, W, _, rfl, SqL.of eW2, rfl, _, _, rfl, ?_⟩
          walk_at "rd"
          have s0 := sW2
          by_cases hb : b = "-"
          · refine iteT' (decide_eq_true (by rw [hb])) ?_
            refine ⟨_, rfl, rfl, _, rfl, ?_⟩
            by_cases hd : d = ""
            · refine iteT' (decide_eq_true (by rw [hd])) ?_
              have po : parse x = some ⟨none, a, Str.empty, false⟩ := by
                rw [px, if_pos (by unfold good3; rw [e1, e2, hb, hd]; decide +kernel)]
                unfold soOf
                rw [if_pos ⟨hb, hd⟩]
              refine ⟨rfl, _, rfl, fun p dx np ndx ne => ?_⟩
              refine ⟨p, dx, ⟨none, a, Str.empty, false⟩, rfl, upd_same, (parse_ok hx po).1, fun H' k1 st => ⟨rfl, ?_⟩⟩
              refine kk _ po p H' (s0.trans fun b' q' e' => k1 _ _ (ne_of_none e' np) ?_) (s0.free np) st
              rw [upd_ne (ne_of_none e' np), upd_ne (ne_of_none e' ndx)]
              exact e'
            · refine iteF' (decide_eq_false (fun q => hd (V.str.inj q))) ?_
              have hm : ¬ (b = "-" ∧ d = "") := fun q => hd q.2
              have hg : (decide (b = "-") && decide (d = "")) = false := by
                cases q : (decide (b = "-") && decide (d = "")) with
                | false => rfl
                | true =>
                  rw [Bool.and_eq_true] at q
                  exact absurd ⟨of_decide_eq_true q.1, of_decide_eq_true q.2⟩ hm
              refine ⟨_, rfl, rfl, b, "~", rfl, rfl, le_lineN (by omega), ?_⟩
              rw [prefix1 til_tl]
              refine ⟨_, rfl, numPart b, rfl, ?_, ?_, fun H3 s3 => ?_⟩
              · exact numPart_abc ab
              · exact Nat.le_trans (numPart_len b) (by omega)
              have s03 := s0.trans s3
              refine ⟨_, rfl, ?_⟩
              cases en : numB (numPart b) with
              | false =>
                refine iteT' rfl ?_
                have hn : parse x = none := by
                  rw [px]
                  unfold good3
                  rw [e1, e2, hg, en]
                  rfl
                refine ⟨by show 1 ≤ 1000; decide, fun ea na => ⟨ea, _, rfl, upd_same, T.o_InvalidText, T.n_InvalidText, fun d2 n2 ne2 => ?_⟩⟩
                have n1 : H3 d2 = none := by rw [upd_ne ne2] at n2; exact n2
                refine ⟨rfl, d2, _, upd_same, (upd_ne ne2).trans upd_same, n1, ?_⟩
                refine ke hn d2 _ (fun b o q => ?_) (s03.free n1) upd_same
                have q1 := s03 _ _ q
                have nb1 : b ≠ ea := ne_of_none q1 na
                have nb2 : b ≠ d2 := ne_of_none q1 n1
                rw [upd_ne nb2, del_ne nb1, upd_ne nb1, upd_ne nb2, upd_ne nb1]
                exact q1
              | true =>
                refine iteF' rfl ?_
                have po : parse x = some ⟨some (valN (numPart b)), a, d, hd1 b 126⟩ := by
                  rw [px, if_pos (by unfold good3; rw [e1, e2, hg, en]; rfl)]
                  unfold soOf
                  rw [if_neg hm]
                obtain ⟨n, n9, eno⟩ := num_of en
                have hv : PySem.intText? (numPart b) = some (valN (numPart b)) := by
                  unfold valN
                  rw [eno, int_of n9]
                refine ⟨rfl, _, rfl, numPart b, _, rfl, hv, Nat.le_trans (numPart_len b) (by omega), _, rfl, _, rfl, _, rfl, ⟨_, rfl⟩, b, "~", rfl, rfl, fun p dx np ndx ne => ?_⟩
                rw [starts1 til_tl]
                refine ⟨p, dx, ⟨some (valN (numPart b)), a, d, hd1 b 126⟩, rfl, upd_same, (parse_ok hx po).1, fun H' k1 st => ⟨rfl, ?_⟩⟩
                refine kk _ po p H' (s03.trans fun b' q' e' => k1 _ _ (ne_of_none e' np) ?_) (s03.free np) st
                rw [upd_ne (ne_of_none e' np), upd_ne (ne_of_none e' ndx)]
                exact e'
          · refine iteF' (decide_eq_false (fun q => hb (V.str.inj q))) ?_
            have hm : ¬ (b = "-" ∧ d = "") := fun q => hb q.1
            have hg : (decide (b = "-") && decide (d = "")) = false := by
              cases q : (decide (b = "-") && decide (d = "")) with
              | false => rfl
              | true =>
                rw [Bool.and_eq_true] at q
                exact absurd ⟨of_decide_eq_true q.1, of_decide_eq_true q.2⟩ hm
            refine ⟨_, rfl, rfl, b, "~", rfl, rfl, le_lineN (by omega), ?_⟩
            rw [prefix1 til_tl]
            refine ⟨_, rfl, numPart b, rfl, ?_, ?_, fun H3 s3 => ?_⟩
            · exact numPart_abc ab
            · exact Nat.le_trans (numPart_len b) (by omega)
            have s03 := s0.trans s3
            refine ⟨_, rfl, ?_⟩
            cases en : numB (numPart b) with
            | false =>
              refine iteT' rfl ?_
              have hn : parse x = none := by
                rw [px]
                unfold good3
                rw [e1, e2, hg, en]
                rfl
              refine ⟨by show 1 ≤ 1000; decide, fun ea na => ⟨ea, _, rfl, upd_same, T.o_InvalidText, T.n_InvalidText, fun d2 n2 ne2 => ?_⟩⟩
              have n1 : H3 d2 = none := by rw [upd_ne ne2] at n2; exact n2
              refine ⟨rfl, d2, _, upd_same, (upd_ne ne2).trans upd_same, n1, ?_⟩
              refine ke hn d2 _ (fun b o q => ?_) (s03.free n1) upd_same
              have q1 := s03 _ _ q
              have nb1 : b ≠ ea := ne_of_none q1 na
              have nb2 : b ≠ d2 := ne_of_none q1 n1
              rw [upd_ne nb2, del_ne nb1, upd_ne nb1, upd_ne nb2, upd_ne nb1]
              exact q1
            | true =>
              refine iteF' rfl ?_
              have po : parse x = some ⟨some (valN (numPart b)), a, d, hd1 b 126⟩ := by
                rw [px, if_pos (by unfold good3; rw [e1, e2, hg, en]; rfl)]
                unfold soOf
                rw [if_neg hm]
              obtain ⟨n, n9, eno⟩ := num_of en
              have hv : PySem.intText? (numPart b) = some (valN (numPart b)) := by
                unfold valN
                rw [eno, int_of n9]
              refine ⟨rfl, _, rfl, numPart b, _, rfl, hv, Nat.le_trans (numPart_len b) (by omega), _, rfl, _, rfl, _, rfl, ⟨_, rfl⟩, b, "~", rfl, rfl, fun p dx np ndx ne => ?_⟩
              rw [starts1 til_tl]
              refine ⟨p, dx, ⟨some (valN (numPart b)), a, d, hd1 b 126⟩, rfl, upd_same, (parse_ok hx po).1, fun H' k1 st => ⟨rfl, ?_⟩⟩
              refine kk _ po p H' (s03.trans fun b' q' e' => k1 _ _ (ne_of_none e' np) ?_) (s03.free np) st
              rw [upd_ne (ne_of_none e' np), upd_ne (ne_of_none e' ndx)]
              exact e'
    · refine iteT' (by rw [List.length_map]; exact congrArg (! ·) (decide_eq_false (fun q => hl (Int.ofNat.inj (V.int.inj q))))) ?_
      refine iteT' rfl ?_
      have hn : parse x = none := parse0 hl
      refine ⟨by show 1 ≤ 1000; decide, fun ea na => ⟨ea, _, rfl, upd_same, T.o_InvalidText, T.n_InvalidText, fun d2 n2 ne2 => ?_⟩⟩
      have n1 : (upd H W (.lst ((Txt.split x ".").map V.str))) d2 = none := by rw [upd_ne ne2] at n2; exact n2
      refine ⟨rfl, d2, _, upd_same, (upd_ne ne2).trans upd_same, n1, ?_⟩
      refine ke hn d2 _ (fun b o q => ?_) (sW.free n1) upd_same
      have q1 := sW _ _ q
      have nb1 : b ≠ ea := ne_of_none q1 na
      have nb2 : b ≠ d2 := ne_of_none q1 n1
      rw [upd_ne nb2, del_ne nb1, upd_ne nb1, upd_ne nb2, upd_ne nb1]
      exact q1

end
end My

namespace My
open PySem PySem.Spec PyProof.Rows L2

local macro_rules | `(tactic| walk_at "rd") => `(tactic| (repeat (first
  | (refine ⟨_, rfl, ?_⟩) | (refine ⟨_, _, rfl, rfl, ?_⟩) | (refine ⟨_, _, rfl, ?_⟩) | (refine ⟨rfl, ?_⟩) | (refine ⟨⟨_, rfl⟩, ?_⟩)
  | (refine ⟨.inl (by decide), ?_⟩) | (refine ⟨.inr (by decide), ?_⟩) | (refine ⟨⟨by decide, by decide⟩, ?_⟩) | (refine ⟨⟨by decide, by decide, by decide⟩, ?_⟩) | (refine ⟨by decide, ?_⟩)
  | (refine ⟨(by show (0 : Int) < _; decide), ?_⟩)
  | (refine ⟨le_line rfl, ?_⟩) | (refine .inl ⟨_, rfl, ?_⟩) | (refine ⟨_, _, _, _, rfl, rfl, SqL.of (by assumption), rfl, ?_⟩))))


theorem passF {X : Cx} {P : Program} {w : World} : Passes (L2.CX P w) X (fun _ _ _ => False) := fun _ _ _ _ _ _ _ h => by
  obtain ⟨_, _, _, _, _, _, _, _, _, _, _, _, h⟩ := h
  exact h.elim
theorem cut_tl (b : Str) : cutS b (some 1) none = tl1 b := by
  unfold cutS tl1
  have h : b.length = b.cps.toList.length := (len_cps b).symm
  show (⟨((b.cps.toList.drop (HT.sIx b.length 0 (some 1))).take (HT.sIx b.length b.length none - HT.sIx b.length 0 (some 1))).toArray⟩ : Str) = ⟨((TL.tl b).drop 1).toArray⟩
  rw [h]
  show _ = (⟨(b.cps.toList.drop 1).toArray⟩ : Str)
  generalize b.cps.toList = l
  cases l with
  | nil => rfl
  | cons c r =>
    have e1 : HT.sIx (c :: r).length 0 (some 1) = 1 := by unfold HT.sIx; simp
    have e2 : HT.sIx (c :: r).length (c :: r).length none = (c :: r).length := rfl
    rw [e1, e2]
    show (⟨(r.take (r.length + 1 - 1)).toArray⟩ : Str) = ⟨r.toArray⟩
    rw [List.take_of_length_le (by omega)]
theorem cut_hd (b : Str) : decide (V.str (cutS b none (some 1)) = V.str (PySem.Str.ofString "~")) = hd1 b 126 := by
  have e0 : (PySem.Str.ofString "~").cps.toList = [126] := by decide +kernel
  have h : b.length = b.cps.toList.length := (len_cps b).symm
  have key : (cutS b none (some 1)).cps.toList = b.cps.toList.take 1 := by
    show ((b.cps.toList.drop (HT.sIx b.length 0 none)).take (HT.sIx b.length b.length (some 1) - HT.sIx b.length 0 none)) = _
    rw [h]
    generalize b.cps.toList = l
    cases l with
    | nil => rfl
    | cons c r =>
      have e1 : HT.sIx (c :: r).length (c :: r).length (some 1) = 1 := by unfold HT.sIx; simp
      have e2 : HT.sIx (c :: r).length 0 none = 0 := rfl
      rw [e1, e2]
      rfl
  unfold hd1
  show _ = (match b.cps.toList with | [] => false | d :: _ => d == 126)
  cases el : b.cps.toList with
  | nil =>
    refine decide_eq_false fun q => ?_
    have := congrArg (fun s : Str => s.cps.toList) (V.str.inj q)
    simp only [key, el, e0] at this
    cases this
  | cons c r =>
    show _ = (c == 126)
    cases hc : c == 126 with
    | true =>
      refine decide_eq_true (congrArg V.str (str_ext ?_))
      rw [key, el, e0, eq_of_beq hc]
      rfl
    | false =>
      refine decide_eq_false fun q => ?_
      have := congrArg (fun s : Str => s.cps.toList) (V.str.inj q)
      simp only [key, el, e0] at this
      have q2 : [c] = [126] := this
      have q3 : c = 126 := by cases q2; rfl
      rw [q3] at hc
      cases hc
def spGood : Sp := fun vs H Q _ => ∃ x : Str, vs = [.str x] ∧ Abc x ∧ x.length ≤ 100 ∧ ∀ H', Same H H' → Q (.bl (parse x).isSome) H'
def heardV (x : Str) : V := match parse x with | some o => .str o.txt | none => .int 0
def spHeard : Sp := fun vs H Q _ => ∃ x : Str, vs = [.str x] ∧ Abc x ∧ x.length ≤ 100 ∧ ∀ H', Same H H' → Q (heardV x) H'

section
theorem ok_is_good {K : PySem.W.Frag} {mg : Str → Option Value} {A0 : Ad} {P : Program} {w : World} {base : Heap} (T : Txt K mg A0) : FnOk P w K mg base CX0 2 A0.f_is_good A0.d_is_good ["_law_given"] (spGood) := by
  have Glis_number := ok_lis_number (P := P) (w := w) (base := base) T
  have Gis_plain := ok_is_plain (P := P) (w := w) (base := base) T
  refine T.F_is_good.ok sc_is_good (fun vs H Q E h => ?_) (fun cdv A outer s H vs Q E hr h => ?_)
  · obtain ⟨x, rfl, hab, hx, kk⟩ := h
    rfl
  · obtain ⟨x, rfl, hab, hx, kk⟩ := h
    have hr_lis_number : Room 1 _ := hr.mono (by decide)
    have hr_is_plain : Room 1 _ := hr.mono (by decide)
    refine ⟨_, (pss_cons (ps_set (i := 1) sc_is_good.nd rfl (Or.inl rfl) (pe_split (pv 0) pe_str))
      (pss_cons (ps_if (PW.pt (pw_or (pt_cmpR op_ne (pe_callB call_len_seq (by rfl) T.z_len (by decide +kernel) (pa_cons (pv 1) pa_nil)) pe_int (nomark _)) (pw_or (pt_not (pt_val (pe_call Gis_plain hr_is_plain rfl T.g_is_plain T.k_is_plain T.b_is_plain .nil pass0 (pa_cons (pe_ix ix_list (pv 1) pe_int (fun _ _ => rfl)) pa_nil)))) (pw_or1 (pt_not (pt_val (pe_call Gis_plain hr_is_plain rfl T.g_is_plain T.k_is_plain T.b_is_plain .nil pass0 (pa_cons (pe_ix ix_list (pv 1) pe_int (fun _ _ => rfl)) pa_nil)))))))) (pss_one (ps_ret pe_bl)) pss_nil)
      (pss_cons (ps_if (pt_cmpR op_eq (pe_ix ix_list (pv 1) pe_int (fun _ _ => rfl)) pe_str (nomark _)) (pss_one (ps_ret (pe_cmpR op_eq (pe_ix ix_list (pv 1) pe_int (fun _ _ => rfl)) pe_str (nomark _)))) pss_nil)
      (pss_one (ps_ret (pe_call Glis_number hr_lis_number rfl T.g_lis_number T.k_lis_number T.b_lis_number .nil pass0 (pa_cons (pe_ifExp (pt_cmpR op_eq (pe_slice sl_str (pe_ix ix_list (pv 1) pe_int (fun _ _ => rfl)) po_none (po_some pe_int)) pe_str (nomark _)) (pe_slice sl_str (pe_ix ix_list (pv 1) pe_int (fun _ _ => rfl)) (po_some pe_int) po_none) (pe_ix ix_list (pv 1) pe_int (fun _ _ => rfl))) pa_nil))))))), ?_⟩
    refine ⟨_, rfl, ⟨_, rfl⟩, x, ".", rfl, rfl, by decide +kernel, le_lineN (by omega), fun W nW => ?_⟩
    have sW := same_upd (o := .lst ((Txt.split x ".").map V.str)) nW
    have eW : (upd H W (.lst ((Txt.split x ".").map V.str))) W = some (.lst ((Txt.split x ".").map V.str)) := upd_same
    refine ⟨_, rfl, W, _, rfl, .inl (SqL.of eW), rfl, _, rfl, ?_⟩
    by_cases hl : (Txt.split x ".").length = 3
    · obtain ⟨a, b, d, e⟩ : ∃ a b d, Txt.split x "." = [a, b, d] := by
        match hp : Txt.split x ".", hl with
        | [a, b, d], _ => exact ⟨a, b, d, rfl⟩
      refine iteF' (by rw [List.length_map, hl]; rfl) ?_
      have hs := split_3 dot_tl dot_k e
      have hlen := hx
      rw [hs, app_len, app_len, app_len, app_len] at hlen
      have inx : ∀ c ∈ x.cps.toList, c < 128 := hab
      rw [hs, app_cps, app_cps, app_cps, app_cps] at inx
      have aa : Abc a := fun c hc => inx c (by simp [hc])
      have ab : Abc b := fun c hc => inx c (by simp [hc])
      have ad : Abc d := fun c hc => inx c (by simp [hc])
      rw [e] at eW sW ⊢
      have px : (parse x).isSome = good3 a b d := by
        rw [parse3 e]
        cases good3 a b d <;> rfl
      rw [px] at kk
      unfold good3 at kk
      refine ⟨_, rfl, W, _, 0, .str a, rfl, rfl, SqL.of eW, rfl, a, rfl, aa, by omega, fun H1 s1 => ?_⟩
      have sW1 := sW.trans s1
      have eW1 := s1 _ _ eW
      refine ⟨_, rfl, ?_⟩
      cases e1 : wordB a with
      | false =>
        rw [e1] at kk
        refine iteT' rfl ?_
        refine iteT' rfl ?_
        exact kk _ sW1
      | true =>
        rw [e1] at kk
        refine iteF' rfl ?_
        refine ⟨_, rfl, W, _, 2, .str d, rfl, rfl, SqL.of eW1, rfl, d, rfl, ad, by omega, fun H2 s2 => ?_⟩
        have sW2 := sW1.trans s2
        have eW2 := s2 _ _ eW1
        refine ⟨_, rfl, ?_⟩
        cases e2 : wordB d with
        | false =>
          rw [e2] at kk
          refine iteT' rfl ?_
          exact kk _ sW2
        | true =>
          rw [e2] at kk
          refine iteF' rfl ?_
          refine ⟨_, rfl, W, _, 1, .str b, rfl, rfl, SqL.of eW2, rfl, rfl, _, rfl, ?_⟩
          by_cases hb : b = "-"
          · refine iteT' (decide_eq_true (by rw [hb])) ?_
            refine ⟨_, rfl, W, _, 2, .str d, rfl, rfl, SqL.of eW2, rfl, rfl, ?_⟩
            have := kk _ sW2
            rw [hb, dash_num, Bool.or_false, decide_eq_true rfl] at this
            have e3 : decide (V.str d = V.str (PySem.Str.ofString "")) = decide (d = "") := by
              by_cases q : d = ""
              · rw [decide_eq_true q, decide_eq_true (by rw [q])]
              · rw [decide_eq_false q, decide_eq_false (fun z => q (V.str.inj z))]
            rw [e3]
            exact this
          · refine iteF' (decide_eq_false (fun q => hb (V.str.inj q))) ?_
            rw [show decide (b = "-") = false from decide_eq_false hb] at kk
            refine ⟨_, rfl, W, _, 1, .str b, rfl, rfl, SqL.of eW2, rfl, ?_⟩
            refine ⟨1, rfl, b, rfl, le_lineN (by omega), rfl, _, rfl, ?_⟩
            rw [cut_hd]
            unfold numPart at kk
            cases eh : hd1 b 126 with
            | true =>
              rw [eh, if_pos rfl] at kk
              have l1 : (tl1 b).length ≤ 1000 := by
                have := numPart_len b
                unfold numPart at this
                rw [eh, if_pos rfl] at this
                omega
              have a1 : Abc (tl1 b) := by
                have := numPart_abc ab
                unfold numPart at this
                rw [eh, if_pos rfl] at this
                exact this
              refine iteT' rfl ?_
              refine ⟨_, rfl, W, _, 1, .str b, rfl, rfl, SqL.of eW2, rfl, 1, rfl, b, rfl, le_lineN (by omega), ?_⟩
              rw [cut_tl]
              exact ⟨tl1 b, rfl, a1, l1, fun H3 s3 => kk _ (sW2.trans s3)⟩
            | false =>
              rw [eh, if_neg (by decide)] at kk
              refine iteF' rfl ?_
              exact ⟨_, rfl, W, _, 1, .str b, rfl, rfl, SqL.of eW2, rfl, b, rfl, ab, by omega, fun H3 s3 => kk _ (sW2.trans s3)⟩
    · refine iteT' (by rw [List.length_map]; exact congrArg (! ·) (decide_eq_false (fun q => hl (Int.ofNat.inj (V.int.inj q))))) ?_
      refine iteT' rfl ?_
      have hn : parse x = none := parse0 hl
      rw [hn] at kk
      exact kk _ sW

theorem ok_heard {K : PySem.W.Frag} {mg : Str → Option Value} {A0 : Ad} {P : Program} {w : World} {base : Heap} (T : Txt K mg A0) : FnOk P w K mg base CX0 7 A0.f_heard A0.d_heard ["_law_given"] (spHeard) := by
  have GSetting_read := ok_Setting_read (P := P) (w := w) (base := base) T
  have GSetting_str := ok_Setting_str (P := P) (w := w) (base := base) T
  obtain ⟨cp, cmr⟩ := T.cm_Setting_read
  refine T.F_heard.ok sc_heard (fun vs H Q E h => ?_) (fun cdv A outer s0 H vs Q E hr h => ?_)
  · obtain ⟨x, rfl, hab, hx, kk⟩ := h
    rfl
  · obtain ⟨x, rfl, hab, hx, kk⟩ := h
    have hr_read : Room 6 _ := hr.mono (by decide)
    have hr_str : Room 3 _ := hr.mono (by decide)
    refine ⟨_, (pss_cons (ps_set (i := 1) sc_heard.nd rfl (Or.inl rfl) pe_non)
      (pss_cons (ps_try_as (i := 2) (tb := fun W => tAsg (tCB (fun xs H Q => ∃ a dx fs, xs = [.ref a] ∧ H a = some (.ins A0.c_Setting dx fs) ∧ spStr A0.c_Setting [.ref a] H (fun v H' => ∃ z : Str, v = .str z ∧ Q (.str z) H') (fun _ _ _ => False))
            (tCons (tCMethS A0.c_Setting (spRead A0.c_Setting A0.c_InvalidText) (WE W) (tC (.ref A0.c_Setting)) (tCons (tVar 0) tNil)) tNil)) (gName 1))
          (ts := fun x cls dd => tAsg (tIf (tAnd (tB (tCB (rIsX K x cls dd) (tCons (tVar 2) (tCons (tC (.ref A0.c_GrowError)) tNil)))) (tNot (tB (tCB (rIsX K x cls dd) (tCons (tVar 2) (tCons (tC (.ref A0.c_InvalidSetting)) tNil)))))) (tXf x cls dd A0.c_InvalidText "at" (tVar 2)) (tC (.str "other"))) (gName 1))
          (Wout := fun _ _ _ _ => False) rfl rfl sc_heard.nd rfl rfl ⟨rfl, by decide, Or.inl T.g_InvalidText⟩ takes0
          (fun W pn xe tk _ => pss_one (ps_set (i := 1) sc_heard.nd rfl (Or.inl rfl) (by exact (pe_callTy (cr_strOwn GSetting_str hr_str T.b_Setting_str T.mt_Setting_str.at_ T.mt_Setting_str.fn) (by rfl) T.z_str (by decide +kernel)
            (pa_cons (pe_cmethS (pe_glob (v := .ref A0.c_Setting) rfl T.g_Setting rfl) T.cd_Setting_read cmr ((GSetting_read.raw T.b_Setting_read .nil).imp fun vs H Q E h => by rw [List.append_nil]; exact h) hr_read (fun σ => passAt tk σ) (pa_cons (pv 0) pa_nil)) pa_nil)))))
          (fun x oe cls dd pn hz hf => pss_one (ps_set (i := 1) sc_heard.nd rfl (Or.inl rfl) (by exact (pe_ifExp (PW.pt (pw_and (pt_val (pe_callB (cr_isX hz hf) (by rfl) T.z_isinstance (by decide +kernel) (pa_cons (pv 2) (pa_cons (pe_glob rfl T.g_GrowError rfl) pa_nil))))
            (pw_and1 (pt_not (pt_val (pe_callB (cr_isX hz hf) (by rfl) T.z_isinstance (by decide +kernel) (pa_cons (pv 2) (pa_cons (pe_glob rfl T.g_InvalidSetting rfl) pa_nil)))))))) (pe_xf T.x_InvalidText T.n_InvalidText hz hf (pv 2)) pe_str)))))
      (pss_one (ps_ret (pv 1))))), ?_⟩
    refine ⟨rfl, _, rfl, ?_⟩
    unfold heardV at kk
    refine ⟨x, rfl, hab, hx, fun o po p H' s' np st => ?_, fun hn d H' s' nd ed => ?_⟩
    · obtain ⟨dx, ep⟩ := st
      rw [po] at kk
      refine ⟨p, dx, _, rfl, ep, ⟨p, o, rfl, ⟨dx, ep⟩, (parse_ok hx po).1, o.txt, rfl, ?_⟩⟩
      exact ⟨_, rfl, kk H' s'⟩
    · rw [hn] at kk
      refine ⟨true, T.s_InvalidText, fun _ x nx => ?_, fun q => nomatch q⟩
      refine ⟨_, rfl, A0.c_InvalidText, d, _, _, _, true, rfl, rfl, rfl, ed, T.e_InvalidText, fun _ q => q, T.is_InvalidText_GrowError, _, rfl, ?_⟩
      refine ⟨_, rfl, A0.c_InvalidText, d, _, _, _, false, rfl, rfl, rfl, ed, T.e_InvalidText, fun _ q => q, T.is_InvalidText_InvalidSetting, _, rfl, ?_⟩
      refine ⟨_, rfl, rfl, rfl, d, _, .int 0, rfl, ed, rfl, ?_⟩
      exact ⟨_, rfl, kk H' s'⟩

end
end My

namespace My
open PySem PySem.Spec PyProof.Rows L2

local macro_rules | `(tactic| walk_at "rd") => `(tactic| (repeat (first
  | (refine ⟨_, rfl, ?_⟩) | (refine ⟨_, _, rfl, rfl, ?_⟩) | (refine ⟨_, _, rfl, ?_⟩) | (refine ⟨rfl, ?_⟩) | (refine ⟨⟨_, rfl⟩, ?_⟩)
  | (refine ⟨.inl (by decide), ?_⟩) | (refine ⟨.inr (by decide), ?_⟩) | (refine ⟨⟨by decide, by decide⟩, ?_⟩) | (refine ⟨⟨by decide, by decide, by decide⟩, ?_⟩) | (refine ⟨by decide, ?_⟩)
  | (refine ⟨(by show (0 : Int) < _; decide), ?_⟩)
  | (refine ⟨le_line rfl, ?_⟩) | (refine .inl ⟨_, rfl, ?_⟩) | (refine ⟨_, _, _, _, rfl, rfl, SqL.of (by assumption), rfl, ?_⟩))))


def ScL (K : PySem.W.Frag) (b : Addr) (H : Hp) (a : Addr) (xs : List V) : Prop := SqL K H a xs ∧ (a ≠ b ∨ ∀ H', SqL K H' a xs)
theorem ScL.mk {K : PySem.W.Frag} {b a : Addr} {H : Hp} {xs : List V} (h : SqL K H a xs) (nb : H b = none) : ScL K b H a xs := by
  refine ⟨h, ?_⟩
  rcases h with h | h
  · refine .inl ?_
    rcases h with h | ⟨o, h⟩ <;> exact ne_of_none h nb
  · exact .inr fun _ => .inr h
theorem ScL.dr {K : PySem.W.Frag} {b a : Addr} {H H' : Hp} {xs : List V} (h : ScL K b H a xs) (d : Dr b H H') : ScL K b H' a xs := by
  obtain ⟨h1, h2⟩ := h
  rcases h2 with n | n
  · exact ⟨d.sqL n h1, .inl n⟩
  · exact ⟨n H', .inr n⟩
theorem ScL.put {K : PySem.W.Frag} {b a L : Addr} {H : Hp} {xs : List V} {o : HO} (h : ScL K b H a xs) (n : a ≠ L ∨ ∀ H', SqL K H' a xs) : ScL K b (upd H L o) a xs := by
  obtain ⟨h1, h2⟩ := h
  refine ⟨?_, h2⟩
  rcases n with n | n
  · rcases h1 with h | h
    · refine .inl ?_
      rcases h with h | ⟨q, h⟩
      · exact .inl (by rw [upd_ne n]; exact h)
      · exact .inr ⟨q, by rw [upd_ne n]; exact h⟩
    · exact .inr h
  · exact n _
/-- what is no list stays -/
def NL (H H' : Hp) : Prop := ∀ p x, (∀ xs, x ≠ .lst xs) → H p = some x → H' p = some x
theorem NL.of_dr {b : Addr} {H H' : Hp} (hb : B2 H b) (d : Dr b H H') : NL H H' := fun p x n e => by
  refine d.kp p x ?_ e
  obtain ⟨g, r, q⟩ := hb
  intro z
  subst z
  rw [q] at e
  exact n _ (Option.some.inj e).symm
theorem NL.of_same {H H' : Hp} (s : Same H H') : NL H H' := fun p x _ e => s p x e
theorem NL.trans {H H1 H2 : Hp} (x : NL H H1) (y : NL H1 H2) : NL H H2 := fun p o n e => y p o n (x p o n e)
theorem NL.put {H : Hp} {L : Addr} {xs ys : List V} (e : H L = some (.lst xs)) : NL H (upd H L (.lst ys)) := fun p x n q => by
  rw [upd_ne]
  · exact q
  · intro z
    subst z
    rw [e] at q
    exact n _ (Option.some.inj q).symm
theorem NL.tup {H H' : Hp} (d : NL H H') {p : Addr} {ys : List V} (e : H p = some (.tup ys)) : H' p = some (.tup ys) := d p _ (fun _ z => nomatch z) e
theorem NL.set {H H' : Hp} (d : NL H H') {C p : Addr} {o : So} (e : SetAt C H p o) : SetAt C H' p o := by
  obtain ⟨dx, e⟩ := e
  exact ⟨dx, d p _ (fun _ z => nomatch z) e⟩
theorem So.same_self (o : So) : o.same o = true := by
  unfold So.same
  rw [decide_eq_true rfl, decide_eq_true rfl, decide_eq_true rfl, decide_eq_true rfl]
  rfl

def bads : List Str := ["", ".", "..", "a.b.c", ".00.", ".01.", ".-.a", ".~-.", ".100.", ".~~0.", " .0.", ".0. ", ".0", "A.0."]
theorem bads_no {z : Str} (h : z ∈ bads) : Abc z ∧ z.length ≤ 100 ∧ heardV z = .int 0 := by
  have e : (bads.all fun z => (z.cps.toList.all fun c => decide (c < 128)) && (decide (z.length ≤ 100) && !(parse z).isSome)) = true := by decide +kernel
  have := List.all_eq_true.mp e z h
  rw [Bool.and_eq_true, Bool.and_eq_true] at this
  obtain ⟨q1, q2, q3⟩ := this
  refine ⟨fun c hc => of_decide_eq_true (List.all_eq_true.mp q1 c hc), of_decide_eq_true q2, ?_⟩
  unfold heardV
  cases hh : parse z with
  | none => rfl
  | some o => rw [hh] at q3; cases q3
theorem glue_le (c : Nat) : ∀ (ps : List (List Nat)) (p : List Nat), p ∈ ps → p.length ≤ (glue c ps).length
  | [], p, h => nomatch h
  | [q], p, h => by rw [List.mem_singleton.mp h]; exact Nat.le_refl _
  | q :: r :: t, p, h => by
    show p.length ≤ (q ++ (c :: glue c (r :: t))).length
    rw [List.length_append, List.length_cons]
    rcases List.mem_cons.mp h with h | h
    · rw [h]; omega
    · have := glue_le c (r :: t) p h
      omega
theorem part_le {x p : Str} (h : p ∈ Txt.split x ".") : p.length ≤ x.length := by
  have e := split_tl x dot_tl dot_k
  have g := spl1_glue 46 (TL.tl x) []
  rw [← e, List.nil_append] at g
  have := glue_le 46 _ _ (List.mem_map_of_mem (f := TL.tl) h)
  rw [g] at this
  rw [TL.len_tl, TL.len_tl]
  exact this
theorem spl_cnt (c : Nat) : ∀ (l acc : List Nat), (TL.spl [c] 0 acc l).length ≤ l.length + 1
  | [], acc => by rw [TL.spl_nil]; exact Nat.le_refl _
  | d :: r, acc => by
    rw [spl1_cons]
    by_cases h : d = c
    · rw [if_pos h, List.length_cons, List.length_cons]
      have := spl_cnt c r []
      omega
    · rw [if_neg h, List.length_cons]
      have := spl_cnt c r (acc ++ [d])
      omega
theorem split_cnt (x : Str) : (Txt.split x ".").length ≤ x.length + 1 := by
  have e := split_tl x dot_tl dot_k
  have := spl_cnt 46 (TL.tl x) []
  rw [← e, List.length_map] at this
  rw [TL.len_tl]
  exact this
theorem split_pos (x : Str) : 0 < (Txt.split x ".").length := by
  have e := split_tl x dot_tl dot_k
  have := spl1_ne 46 (TL.tl x) []
  rw [← e] at this
  cases h : Txt.split x "." with
  | nil => rw [h] at this; exact absurd rfl this
  | cons a r => exact Nat.succ_pos _
theorem heard_ok {x : Str} (hx : x.length ≤ 100) : heardV x = if (parse x).isSome = true then .str x else .int 0 := by
  unfold heardV
  cases h : parse x with
  | none => rfl
  | some o =>
    show V.str o.txt = if true = true then V.str x else V.int 0
    rw [if_pos rfl]; exact congrArg V.str (parse_ok hx h).2
theorem num_abc : ∀ n, n < 100 → ∀ c ∈ (PySem.Str.ofString (toString ((n : Nat) : Int))).cps.toList, c < 128 := by decide +kernel
theorem app_abc {a b : Str} (ha : Abc a) (hb : Abc b) : Abc (a ++ b) := fun c hc => by
  rw [app_cps] at hc
  rcases List.mem_append.mp hc with h | h
  · exact ha c h
  · exact hb c h
theorem lit_abc {z : Str} (h : (z.cps.toList.all fun c => decide (c < 128)) = true) : Abc z := fun c hc => of_decide_eq_true (List.all_eq_true.mp h c hc)
theorem So.txt_fit {o : So} (h : o.ok) (h1 : o.h.length ≤ 3) (h2 : o.t.length ≤ 3) : Abc o.txt ∧ o.txt.length ≤ 20 := by
  have a1 := word_abc h.wh
  have a2 := word_abc h.wt
  have d1 : Abc (".": Str) := lit_abc (by decide +kernel)
  have d2 : Abc ("-": Str) := lit_abc (by decide +kernel)
  have d3 : Abc ("~": Str) := lit_abc (by decide +kernel)
  have l1 : (".": Str).length = 1 := by decide +kernel
  have l2 : ("-": Str).length = 1 := by decide +kernel
  have l3 : ("~": Str).length = 1 := by decide +kernel
  unfold So.txt
  cases e : o.s with
  | none =>
    refine ⟨app_abc (app_abc (app_abc (app_abc a1 d1) d2) d1) a2, ?_⟩
    show (o.h ++ "." ++ "-" ++ "." ++ o.t).length ≤ 20
    rw [app_len, app_len, app_len, app_len]
    omega
  | some i =>
    obtain ⟨i0, i1⟩ := h.lo i e
    have ai : Abc (PySem.Str.ofString (toString i)) := by
      have := num_abc i.toNat (by omega)
      rw [show ((i.toNat : Nat) : Int) = i by omega] at this
      exact this
    have li := int_len i0 (by omega)
    show Abc (o.h ++ "." ++ ((if o.u = true then ("~" : Str) else Str.empty) ++ (toString i : String)) ++ "." ++ o.t) ∧ (o.h ++ "." ++ ((if o.u = true then ("~" : Str) else Str.empty) ++ (toString i : String)) ++ "." ++ o.t).length ≤ 20
    cases o.u with
    | true =>
      refine ⟨app_abc (app_abc (app_abc (app_abc a1 d1) (app_abc d3 ai)) d1) a2, ?_⟩
      rw [if_pos rfl, app_len, app_len, app_len, app_len, app_len]
      omega
    | false =>
      refine ⟨app_abc (app_abc (app_abc (app_abc a1 d1) (app_abc (fun c hc => nomatch hc) ai)) d1) a2, ?_⟩
      rw [if_neg (by decide), emp_app, app_len, app_len, app_len, app_len]
      omega
theorem cut_abc {x : Str} (lo hi : Option Int) (h : Abc x) : Abc (cutS x lo hi) := fun c hc => h c (List.mem_of_mem_drop (List.mem_of_mem_take (show c ∈ ((x.cps.toList.drop (HT.sIx x.length 0 lo)).take (HT.sIx x.length x.length hi - HT.sIx x.length 0 lo)) from hc)))
theorem cut_both (x : Str) {a b : Int} (h0 : 0 ≤ a) (h1 : a ≤ b) : (cutS x none (some a)).length + (cutS x (some b) none).length ≤ x.length := by
  have e1 : (cutS x none (some a)).length = ((x.cps.toList.drop (HT.sIx x.length 0 none)).take (HT.sIx x.length x.length (some a) - HT.sIx x.length 0 none)).length := (len_cps _).symm
  have e2 : (cutS x (some b) none).length = ((x.cps.toList.drop (HT.sIx x.length 0 (some b))).take (HT.sIx x.length x.length none - HT.sIx x.length 0 (some b))).length := (len_cps _).symm
  have hx := len_cps x
  rw [e1, e2, show HT.sIx x.length 0 none = 0 from rfl, show HT.sIx x.length x.length none = x.length from rfl]
  have ha : HT.sIx x.length x.length (some a) = min a.toNat x.length := by show (if a < 0 then _ else _) = _; rw [if_neg (by omega)]
  have hb : HT.sIx x.length 0 (some b) = min b.toNat x.length := by show (if b < 0 then _ else _) = _; rw [if_neg (by omega)]
  rw [ha, hb]
  simp only [List.length_take, List.length_drop]
  omega
theorem str_shaped {y : Str} (h : Abc y) : SeqAt.shaped (.str y) = true := by
  have h0 : PyData.strOk y = true := by
    unfold PyData.strOk
    rw [Array.all_eq_true_iff_forall_mem]
    intro c hc
    have := h c (by simpa using hc)
    exact decide_eq_true (by omega)
  unfold SeqAt.shaped
  rw [Bool.and_eq_true]
  exact ⟨h0, decide_eq_true (Nat.zero_le _)⟩
theorem str_room {y : Str} (h : Abc y) (hl : y.length ≤ 100) : (PyData.str y).shown.length ≤ sizeLine := by
  have := StrLaws.reprText_len y (fun c hc => Nat.lt_trans (h c hc) (by decide))
  refine le_lineN ?_
  show (reprText y).length ≤ _
  omega
set_option maxHeartbeats 2000000

section
theorem ok_law {K : PySem.W.Frag} {mg : Str → Option Value} {A0 : Ad} {P : Program} {w : World} {base : Heap} (T : Txt K mg A0) : FnAt P w K mg base callerA A0.f_law A0.d_law ["_law_script"] (spLaw K) := by
  have Gseed := ok_seed (P := P) (w := w) (base := base) T
  have Gfree := ok_free (P := P) (w := w) (base := base) T
  have Gset_text := ok_set_text (P := P) (w := w) (base := base) T
  have Gheard := ok_heard (P := P) (w := w) (base := base) T
  have Gset_of := ok_set_of (P := P) (w := w) (base := base) T
  have Gchoose := ok_choose (P := P) (w := w) (base := base) T
  have Gone_of := ok_one_of (P := P) (w := w) (base := base) T
  have Gis_good := ok_is_good (P := P) (w := w) (base := base) T
  have Gx : True := trivial
  have GSetting_read := ok_Setting_read (P := P) (w := w) (base := base) T
  have GSetting_eq := ok_Setting_eq (P := P) (w := w) (base := base) T
  obtain ⟨cp, cmr⟩ := T.cm_Setting_read
  refine My.Fun.at T.F_law (k := 11) sc_law ⟨rfl, by decide, by decide⟩ (fun vs H Q E h => ?_) (fun cdv outer s H vs Q E hr h => ?_)
  · obtain ⟨a, ns, rfl, hS, hlen, kk⟩ := h
    rfl
  · obtain ⟨a, ns, rfl, hS, hlen, kk⟩ := h
    have hr_seed : Room 1 _ := hr.mono (by decide)
    have hr_free : Room 4 _ := hr.mono (by decide)
    have hr_set_text : Room 1 _ := hr.mono (by decide)
    have hr_heard : Room 7 _ := hr.mono (by decide)
    have hr_set_of : Room 6 _ := hr.mono (by decide)
    have hr_choose : Room 1 _ := hr.mono (by decide)
    have hr_one_of : Room 2 _ := hr.mono (by decide)
    have hr_is_good : Room 2 _ := hr.mono (by decide)
    have hun : (callerA.deeper (envOfC "law" (defScope s_law) s.heap.objs.size A0.f_law cdv)).units + 66 < cLine := by have := hr.un; omega
    have hr_read : Room 6 _ := hr.mono (by decide)
    refine ⟨_, (pss_cons (ps_for PassesOwn.never rfl (pi_range1 (by rfl) T.z_range (pa_cons (pe_callB (call_max2 rfl) (by rfl) T.z_max (by decide +kernel) (pa_cons pe_int (pa_cons (pe_callB (call_min2 rfl) (by rfl) T.z_min (by decide +kernel) (pa_cons pe_int (pa_cons (pe_callB call_len_seq (by rfl) T.z_len (by decide +kernel) (pa_cons (pv 0) pa_nil)) pa_nil))) pa_nil))) pa_nil)) (pg_name (i := 1) sc_law.nd rfl (Or.inl rfl)) (pss_cons (ps_set (i := 2) sc_law.nd rfl (Or.inl rfl) (pe_call Gseed hr_seed rfl T.g_seed T.k_seed T.b_seed .nil pass0 (pa_cons (pv 0) (pa_cons (pv 1) pa_nil))))
      (pss_one (ps_for PassesOwn.never rfl (pi_range1 (by rfl) T.z_range (pa_cons pe_int pa_nil)) (pg_name (i := 3) sc_law.nd rfl (Or.inl rfl)) (pss_cons (ps_set (i := 4) sc_law.nd rfl (Or.inl rfl) (pe_call Gfree hr_free rfl T.g_free T.k_free T.b_free .nil pass0 (pa_cons (pv 2) (pa_cons pe_str pa_nil))))
      (pss_cons (ps_set (i := 5) sc_law.nd rfl (Or.inl rfl) (pe_call Gset_text hr_set_text rfl T.g_set_text T.k_set_text T.b_set_text .nil pass0 (pa_cons (pv 4) pa_nil)))
      (pss_cons (ps_if (PW.pt (pw_or (pt_cmpR (op_neO GSetting_eq (hr.mono (by decide)) T.b_Setting_eq T.mt_Setting_eq.at_ T.mt_Setting_eq.fn T.r_ne T.r_mo) (ClX.pe_cmeth (pe_glob (v := .ref A0.c_Setting) rfl T.g_Setting rfl) T.cd_Setting_read cmr ((GSetting_read.raw T.b_Setting_read .nil).imp fun vs H Q E h => by rw [List.append_nil]; exact h) hr_read passF (pa_cons (pv 5) pa_nil)) (pe_call Gset_of hr_set_of rfl T.g_set_of T.k_set_of T.b_set_of .nil pass0 (pa_cons (pv 4) pa_nil)) (nomark _)) (pw_or1 (pt_cmpR op_ne (pe_call Gheard hr_heard rfl T.g_heard T.k_heard T.b_heard .nil pass0 (pa_cons (pv 5) pa_nil)) (pv 5) (nomark _))))) (pss_one (ps_ret pe_bl)) pss_nil)
      (pss_one (ps_for PassesOwn.never rfl (pi_range1 (by rfl) T.z_range (pa_cons pe_int pa_nil)) (pg_name (i := 6) sc_law.nd rfl (Or.inl rfl)) (pss_cons (ps_par (i := 7) (j := 8) (by rfl) sc_law.nd rfl rfl (by decide) rfl rfl (pa_cons (pe_call Gchoose hr_choose rfl T.g_choose T.k_choose T.b_choose .nil pass0 (pa_cons (pv 2) (pa_cons (pe_op op_add (pe_callB call_len_str (by rfl) T.z_len (by decide +kernel) (pa_cons (pv 5) pa_nil)) pe_int) pa_nil))) (pa_cons (pe_call Gone_of hr_one_of rfl T.g_one_of T.k_one_of T.b_one_of .nil pass0 (pa_cons (pv 2) (pa_cons (pe_callTy (cr_listStr rfl) (by rfl) T.z_list (by decide +kernel) (pa_cons pe_str pa_nil)) pa_nil))) pa_nil)) (by rfl))
      (pss_cons (ps_set (i := 5) sc_law.nd rfl (Or.inl rfl) (pe_op op_add_str (pe_op op_add_str (pe_slice sl_str (pv 5) po_none (po_some (pv 7))) (pe_op op_mul01 (pv 8) (pe_call Gchoose hr_choose rfl T.g_choose T.k_choose T.b_choose .nil pass0 (pa_cons (pv 2) (pa_cons pe_int pa_nil))))) (pe_slice sl_str (pv 5) (po_some (pe_op op_add (pv 7) (pe_call Gchoose hr_choose rfl T.g_choose T.k_choose T.b_choose .nil pass0 (pa_cons (pv 2) (pa_cons pe_int pa_nil))))) po_none)))
      (pss_cons (ps_if (PW.pt (pw_and (pt_val (pe_call Gis_good hr_is_good rfl T.g_is_good T.k_is_good T.b_is_good .nil pass0 (pa_cons (pv 5) pa_nil))) (pw_and1 (pt_cmpR op_gt (pe_callB (cr_max rfl) (by rfl) T.z_max (by decide +kernel) (pa_cons (pe_lc (own := [("_law_part", 10)]) (g := gName 10) (tt := tYes) rfl sc_law.nd (pi_list (pe_split (pv 5) pe_str)) (blkOk_by (own := [("_law_part", 10)]) (N := N_law) (sc := defScope s_law) (by decide +kernel)) (fun _ _ _ _ _ => (pg_name (i := 10) sc_law.nd rfl (Or.inl rfl))) (fun _ _ _ _ _ => pts_nil) (fun _ _ _ _ _ => by exact (pe_callB call_len_str (by rfl) T.z_len (by decide +kernel) (pa_cons (pv 10) pa_nil)))) pa_nil)) pe_int (nomark _))))) (pss_one ps_continue) pss_nil)
      (pss_one (ps_if (pt_cmpR op_ne (pe_callB (cr_reprD rfl hun) (by rfl) T.z_repr (by decide +kernel) (pa_cons (pe_call Gheard hr_heard rfl T.g_heard T.k_heard T.b_heard .nil pass0 (pa_cons (pv 5) pa_nil)) pa_nil)) (pe_callB (cr_reprD rfl hun) (by rfl) T.z_repr (by decide +kernel) (pa_cons (pe_ifExp (pt_val (pe_call Gis_good hr_is_good rfl T.g_is_good T.k_is_good T.b_is_good .nil pass0 (pa_cons (pv 5) pa_nil))) (pv 5) pe_int) pa_nil)) (nomark _)) (pss_one (ps_ret pe_bl)) pss_nil))))))))))))))
      (pss_cons (ps_for PassesOwn.never rfl (pi_tup (pe_tup (pa_cons pe_str (pa_cons pe_str (pa_cons pe_str (pa_cons pe_str (pa_cons pe_str (pa_cons pe_str (pa_cons pe_str (pa_cons pe_str (pa_cons pe_str (pa_cons pe_str (pa_cons pe_str (pa_cons pe_str (pa_cons pe_str (pa_cons pe_str pa_nil)))))))))))))))) (pg_name (i := 9) sc_law.nd rfl (Or.inl rfl)) (pss_one (ps_if (pt_cmpR op_ne (pe_call Gheard hr_heard rfl T.g_heard T.k_heard T.b_heard .nil pass0 (pa_cons (pv 9) pa_nil)) pe_int (nomark _)) (pss_one (ps_ret pe_bl)) pss_nil)))
      (pss_one (ps_ret (pe_and (pe_cmpR op_eq (pe_call Gheard hr_heard rfl T.g_heard T.k_heard T.b_heard .nil pass0 (pa_cons pe_str pa_nil)) pe_str (nomark _)) (pe_one (pe_cmpR op_eq (pe_call Gheard hr_heard rfl T.g_heard T.k_heard T.b_heard .nil pass0 (pa_cons pe_str pa_nil)) pe_str (nomark _)))))))), ?_⟩
    walk_at "rd"
    refine ⟨_, _, rfl, .inl hS, ?_⟩
    walk_at "rd"
    rw [List.length_map]
    generalize hJ : (if (if ((ns.length : Nat) : Int) < 4 then ((ns.length : Nat) : Int) else 4) > 2 then (if ((ns.length : Nat) : Int) < 4 then ((ns.length : Nat) : Int) else 4) else 2) = J
    have hJ0 : 0 ≤ J ∧ J ≤ 63 := by
      rw [← hJ]
      constructor <;> (repeat' split) <;> omega
    refine ⟨by omega, by omega, for_range (lo := 0) (n := J.toNat) (fun i σ H' => (∃ v1 v2 v3 v4 v5 v6 v7 v8 v9 v10, σ = [some (.ref a), v1, v2, v3, v4, v5, v6, v7, v8, v9, v10]) ∧ SqL K H' a (ns.map V.int))
      ⟨⟨_, _, _, _, _, _, _, _, _, _, rfl⟩, hS⟩ (fun i σ H1 hi P1 => ?_) (fun σ H1 P1 => ?_)⟩
    · obtain ⟨⟨v1, v2, v3, v4, v5, v6, v7, v8, v9, v10, rfl⟩, hS1⟩ := P1
      walk_at "rd"
      refine ⟨a, ns, 0 + (i : Int), rfl, hS1, hlen, by omega, by omega, fun b g r nb => ?_⟩
      have hB0 : My.B2 (upd H1 b (.lst [.int g, .int r])) b := ⟨g, r, upd_same⟩
      have hC0 : ScL K b (upd H1 b (.lst [.int g, .int r])) a (ns.map V.int) := ⟨(same_upd nb).seq hS1, (ScL.mk hS1 nb).2⟩
      walk_at "rd"
      refine for_range (lo := 0) (n := 8) (fun j σ H' => (∃ v3 v4 v5 v6 v7 v8 v9 v10, σ = [some (.ref a), some (.int (0 + (i : Int))), some (.ref b), v3, v4, v5, v6, v7, v8, v9, v10]) ∧ My.B2 H' b ∧ ScL K b H' a (ns.map V.int))
        ⟨⟨_, _, _, _, _, _, _, _, rfl⟩, hB0, hC0⟩ (fun j σ H2 hj P2 => ?_) (fun σ H2 P2 => ?_)
      · obtain ⟨⟨v3, v4, v5, v6, v7, v8, v9, v10, rfl⟩, hB, hC⟩ := P2
        walk_at "rd"
        refine ⟨hB, by decide +kernel, by decide +kernel, by decide +kernel, fun l o H3 D3 el hk hl => ?_⟩
        walk_at "rd"
        refine ⟨l, o, rfl, el, hk, ?_⟩
        obtain ⟨xa, xl⟩ := So.txt_fit hk hl.1 hl.2
        have po := parse_txt hk
        walk_at "rd"
        refine ⟨xa, by omega, fun o' po' p1 H4 s4 np1 sp1 => ?_, fun pn => by rw [po] at pn; cases pn⟩
        have eo : o = o' := Option.some.inj (po.symm.trans po')
        subst eo
        have el4 := s4 _ _ el
        refine ⟨_, rfl, l, o, rfl, el4, hk, fun p2 H5 s5 np2 sp2 => ?_⟩
        have sp1' : SetAt A0.c_Setting H5 p1 o := (NL.of_same s5).set sp1
        obtain ⟨d1, e1⟩ := id sp1'
        obtain ⟨d2, e2⟩ := id sp2
        have ho : Oth A0.c_Setting H5 o (.ref p2) true := by
          have := Oth.set (o := o) sp2
          rw [So.same_self] at this
          exact this
        refine ⟨p1, d1, _, p2, d2, _, rfl, rfl, e1, e2, ⟨p1, .ref p2, o, true, rfl, sp1', ho, _, rfl, _, rfl, _, rfl, iteF' rfl ?_⟩⟩
        walk_at "rd"
        refine ⟨xa, by omega, fun H6 s6 => ?_⟩
        have hv : heardV o.txt = .str o.txt := by unfold heardV; rw [po]
        rw [hv]
        have D6 := D3.trans (.same D3.bx (s4.trans (s5.trans s6)))
        refine ⟨_, rfl, rfl, _, rfl, iteF' (by rw [decide_eq_true rfl]; rfl) ?_⟩
        walk_at "rd"
        refine for_range (lo := 0) (n := 4) (fun q σ H' => ∃ (x : Str) (v6 v7 v8 v10 : Option V), σ = [some (.ref a), some (.int (0 + (i : Int))), some (.ref b), some (.int (0 + (j : Int))), some (.ref l), some (.str x), v6, v7, v8, v9, v10] ∧ Dr b H2 H' ∧ Abc x ∧ x.length ≤ 20 + q)
          ⟨o.txt, _, _, _, _, rfl, D6, xa, xl⟩ (fun q σ H7 hq P7 => ?_) (fun σ H7 P7 => ?_)
        · obtain ⟨x, v6, v7, v8, v10, rfl, D7, xa, xl⟩ := P7
          walk_at "rd"
          refine ⟨le_lineN (by omega), _, _, rfl, rfl, b, _, rfl, D7.bx, by omega, by omega, fun at_ H8 D8 a0 a1 _ => ?_⟩
          have D78 := D7.trans D8
          walk_at "rd"
          intro S nS
          have s9 := same_upd (o := .lst (sgn ".~-0179aA ")) nS
          have D9 : Dr b H2 (upd H8 S (.lst (sgn ".~-0179aA "))) := D78.trans (.same D78.bx s9)
          refine ⟨b, S, sgn ".~-0179aA ", rfl, D9.bx, SqL.of upd_same, D78.bx.ne nS, by rw [sgn_len]; decide +kernel, by rw [sgn_len]; decide +kernel, fun v HA DA mv => ?_⟩
          obtain ⟨sg, rfl, c, hc, rfl⟩ := sgn_mem mv
          have hcl : c < 128 := of_decide_eq_true (List.all_eq_true.mp (by decide +kernel : ((PySem.Str.ofString ".~-0179aA ").cps.toList.all fun c => decide (c < 128)) = true) c hc)
          have D9A := D9.trans DA
          walk_at "rd"
          refine ⟨le_lineN (by omega), _, rfl, _, rfl, b, 2, rfl, D9A.bx, by decide, by decide, fun k1 HB DB k10 k11 _ => ?_⟩
          have lm : ∃ m : Str, m = (if k1 = 1 then (⟨#[c]⟩ : Str) else Str.empty) ∧ m.length ≤ 1 ∧ Abc m := by
            refine ⟨_, rfl, ?_, ?_⟩
            · by_cases q : k1 = 1
              · rw [if_pos q]; exact Nat.le_refl _
              · rw [if_neg q]; exact Nat.zero_le _
            · by_cases q : k1 = 1
              · rw [if_pos q]
                intro z hz
                have : z = c := by simpa using hz
                omega
              · rw [if_neg q]; exact fun _ q => nomatch q
          obtain ⟨m, em, lm, am⟩ := lm
          refine ⟨_, k1, rfl, rfl, by omega, ?_⟩
          rw [← em]
          have c1 := cutS_length x none (some at_)
          refine ⟨_, _, rfl, rfl, le_lineN (by omega), ?_⟩
          have DAB := D9A.trans DB
          refine ⟨_, rfl, _, rfl, _, rfl, b, 2, rfl, DAB.bx, by decide, by decide, fun k2 HC DC k20 k21 _ => ?_⟩
          have DAC := DAB.trans DC
          walk_at "rd"
          have c2 := cut_both x (a := at_) (b := at_ + k2) a0 (by omega)
          have c3 := cutS_length x (some (at_ + k2)) none
          have ax1 := app_abc (app_abc (cut_abc none (some at_) xa) am) (cut_abc (some (at_ + k2)) none xa)
          have lx1 : (cutS x none (some at_) ++ m ++ cutS x (some (at_ + k2)) none).length ≤ 20 + (q + 1) := by
            rw [app_len, app_len]; omega
          refine ⟨le_lineN (by omega), _, _, rfl, rfl, le_lineN (by rw [app_len]; omega), ?_⟩
          generalize cutS x none (some at_) ++ m ++ cutS x (some (at_ + k2)) none = y at ax1 lx1 ⊢
          refine ⟨_, rfl, y, rfl, ax1, by omega, fun HD sD => ?_⟩
          have DD := DAC.trans (.same DAC.bx sD)
          refine ⟨_, rfl, ?_⟩
          cases hp1 : (parse y).isSome with
          | false =>
            refine iteF' rfl ?_
            refine iteF' rfl ?_
            refine ⟨_, rfl, y, rfl, ax1, by omega, fun HE sE => ?_⟩
            have DE := DD.trans (.same DD.bx sE)
            rw [heard_ok (by omega), hp1]
            rw [if_neg (by decide)]
            refine ⟨_, .int 0, rfl, .int 0, by decide +kernel, by decide +kernel, le_lineN (by decide +kernel), ?_⟩
            refine ⟨_, rfl, y, rfl, ax1, by omega, fun HF sF => ?_⟩
            have DF := DE.trans (.same DE.bx sF)
            refine ⟨_, rfl, iteF' hp1 ?_⟩
            refine ⟨_, .int 0, rfl, .int 0, by decide +kernel, by decide +kernel, le_lineN (by decide +kernel), rfl, _, rfl, iteNS rfl ?_⟩
            exact ⟨y, _, _, _, _, rfl, DF, ax1, lx1⟩
          | true =>
            refine iteT' rfl ?_
            walk_at "rd"
            refine ⟨le_lineN (by omega), fun W nW => ?_⟩
            have sW := same_upd (o := .lst ((Txt.split y ".").map V.str)) nW
            have DW := DD.trans (.same DD.bx sW)
            refine ⟨W, rfl, ⟨_, SqL.of upd_same⟩, fun Z nZ => ?_⟩
            have eW : (upd HD W (.lst ((Txt.split y ".").map V.str))) W = some (.lst ((Txt.split y ".").map V.str)) := upd_same
            refine lc_it (walk_list (K := K) (a := W) (xs := (Txt.split y ".").map V.str)) (fun q H' => Same (upd HD W (.lst ((Txt.split y ".").map V.str))) H' ∧ H' Z = some (.lst ((((Txt.split y ".").take q).map fun p : Str => ((p.length : Nat) : Int)).map V.int)))
              ⟨same_upd nZ, upd_same⟩ (fun q H' _ h => SqL.of (h.1 _ _ eW)) (fun q v H1' H2' hq Pq Y => ?_) (fun H' Pq => ?_)
            · obtain ⟨s1, eZ⟩ := Pq
              obtain ⟨rfl, ev⟩ := Y
              obtain ⟨p, ep, rfl⟩ : ∃ p, (Txt.split y ".")[q]? = some p ∧ v = .str p := by
                rw [List.getElem?_map] at ev
                cases hh : (Txt.split y ".")[q]? with
                | none => rw [hh] at ev; cases ev
                | some p => rw [hh] at ev; exact ⟨p, rfl, (Option.some.inj ev).symm⟩
              have lp := part_le (List.mem_of_getElem? ep)
              have lq : (Txt.split y ".").length ≤ y.length + 1 := split_cnt y
              refine ⟨rfl, ?_⟩
              refine ⟨_, rfl, p, rfl, le_lineN (by omega), _, eZ, ?_, fun b o e => by rw [upd_ne (ne_of_none e nZ)]; exact s1 _ _ e, ?_⟩
              · rw [List.length_map, List.length_map, List.length_take]
                exact Nat.lt_of_lt_of_le (show min q (Txt.split y ".").length < 1001 by omega) (le_lineN (by omega))
              · rw [upd_same, List.take_add_one, ep, List.map_append, List.map_append]
                rfl
            · obtain ⟨s1, eZ⟩ := Pq
              rw [List.take_of_length_le (by rw [List.length_map]; exact Nat.le_refl _)] at eZ
              have DZ := DW.trans (.same DW.bx s1)
              refine ⟨Z, _, rfl, SqL.of eZ, by rw [List.length_map]; exact split_pos y, fun mx _ _ => ?_⟩
              walk_at "rd"
              refine ite2 (fun _ => ?_) (fun _ => ?_)
              · walk_at "rd"
                exact ⟨y, _, _, _, _, rfl, DZ, ax1, lx1⟩
              · refine ⟨_, rfl, y, rfl, ax1, by omega, fun HE sE => ?_⟩
                have DE := DZ.trans (.same DZ.bx sE)
                rw [heard_ok (by omega), hp1]
                rw [if_pos rfl]
                refine ⟨_, .str y, rfl, .str y, str_shaped ax1, rfl, str_room ax1 (by omega), ?_⟩
                refine ⟨_, rfl, y, rfl, ax1, by omega, fun HF sF => ?_⟩
                have DF := DE.trans (.same DE.bx sF)
                refine ⟨_, rfl, iteT' hp1 ?_⟩
                refine ⟨_, rfl, _, .str y, rfl, .str y, str_shaped ax1, rfl, str_room ax1 (by omega), rfl, _, rfl, iteNS rfl ?_⟩
                exact ⟨y, _, _, _, _, rfl, DF, ax1, lx1⟩
        · obtain ⟨x, v6, v7, v8, v10, rfl, D7, xa, xl⟩ := P7
          exact ⟨⟨_, _, _, _, _, _, _, _, rfl⟩, D7.bx, hC.dr D7⟩
      · obtain ⟨⟨v3, v4, v5, v6, v7, v8, v9, v10, rfl⟩, hB, hC⟩ := P2
        exact ⟨⟨_, _, _, _, _, _, _, _, _, _, rfl⟩, hC.1⟩
    · obtain ⟨⟨v1, v2, v3, v4, v5, v6, v7, v8, v9, v10, rfl⟩, hS1⟩ := P1
      walk_at "rd"
      intro T1 nT
      have eT : (upd H1 T1 (.tup (bads.map V.str))) T1 = some (.tup (bads.map V.str)) := upd_same
      refine ⟨T1, rfl, ⟨_, SqT.of eT⟩, ?_⟩
      refine for_it (walk_tup (K := K) (a := T1) (xs := bads.map V.str)) (fun q σ H' => (∃ v9, σ = [some (.ref a), v1, v2, v3, v4, v5, v6, v7, v8, v9, v10]) ∧ Same (upd H1 T1 (.tup (bads.map V.str))) H')
        ⟨⟨_, rfl⟩, Same.refl _⟩ (fun q σ H' _ h => SqT.of (h.2 _ _ eT)) (fun q v σ H' H'' hq Pq Y => ?_) (fun σ H' Pq => ?_)
      · obtain ⟨⟨v9, rfl⟩, s1⟩ := Pq
        obtain ⟨rfl, ev⟩ := Y
        obtain ⟨p, ep, rfl⟩ : ∃ p, bads[q]? = some p ∧ v = .str p := by
          rw [List.getElem?_map] at ev
          cases hh : bads[q]? with
          | none => rw [hh] at ev; cases ev
          | some p => rw [hh] at ev; exact ⟨p, rfl, (Option.some.inj ev).symm⟩
        obtain ⟨b1, b2, b3⟩ := bads_no (List.mem_of_getElem? ep)
        walk_at "rd"
        refine ⟨b1, b2, fun H9 s9 => ?_⟩
        rw [b3]
        refine ⟨rfl, _, rfl, iteF' (by rw [decide_eq_true rfl]; rfl) ?_⟩
        exact ⟨⟨_, rfl⟩, s1.trans s9⟩
      · obtain ⟨⟨v9, rfl⟩, s1⟩ := Pq
        have h1 : heardV "ab.~12.b" = .str "ab.~12.b" := by rw [heard_ok (by decide +kernel), show (parse "ab.~12.b").isSome = true by decide +kernel]; rfl
        have h2 : heardV "zz.-." = .str "zz.-." := by rw [heard_ok (by decide +kernel), show (parse "zz.-.").isSome = true by decide +kernel]; rfl
        walk_at "rd"
        refine ⟨lit_abc (by decide +kernel), by decide +kernel, fun H2 s2 => ?_⟩
        rw [h1]
        refine ⟨rfl, _, rfl, iteT' (decide_eq_true rfl) ?_⟩
        walk_at "rd"
        refine ⟨lit_abc (by decide +kernel), by decide +kernel, fun H3 s3 => ?_⟩
        rw [h2]
        refine ⟨rfl, ?_⟩
        rw [decide_eq_true rfl]
        exact kk _

end
end My

namespace My
open PySem PySem.Spec PyProof.Rows L2

theorem exm_self {K : PySem.W.Frag} {S : Addr} (h1 : PySem.W.subIn K (.ref S) (.type "BaseException") = some true) (h2 : PySem.W.hasDictIn K S = true)
    (h3 : PySem.W.typeIn K (.ref S) = some (.type "type")) (h4 : PySem.W.subIn K (.ref S) (.ref S) = some true) :
    PySem.W.exmOne K (.ref S) (.ref S) = some true := PySem.W.exm_ref h1 h2 h3 h4
theorem kit_own {K : PySem.W.Frag} {C D : Addr} {r : Bool} (h1 : PySem.W.subIn K (.ref C) (.ref D) = some r) (h2 : PySem.W.isClsIn K D = true)
    (h3 : PySem.W.typeIn K (.ref D) = some (.type "type")) (h4 : PySem.W.subIn K (.ref C) (.ref C) = some true) : PySem.W.kitOne K (.ref C) (.ref D) = some r := by
  unfold PySem.W.kitOne
  by_cases e : C = D
  · subst e
    rw [if_pos (by simp), ← h4]
    exact h1
  · rw [if_neg (by simp [e])]
    have h2' : (PySem.W.clsIn K D).isSome = true := h2
    show (if ((PySem.W.clsIn K D).isSome && PySem.W.typeIn K (.ref D) == some (.type "type")) = true then PySem.W.subIn K (.ref C) (.ref D) else none) = some r
    rw [h2', h3, if_pos (by simp)]
    exact h1
set_option maxHeartbeats 0 in
theorem all_mk {l : PySem.W.OpenLaw} {w : World} {K : PySem.W.Frag} {h : Heap} {mg : Str → Option Value} {fa : Addr} (X : K.In h) (G : h.Ns mainGlobals mg) (hfa : mg "law" = some (.ref fa))
    {f1 f2 f3 f4 f5 f6 f7 f8 f9 f10 f11 f12 f13 f14 f15 f16 f17 f18 f19 f20 f21 f22 C0 C1 C2 C3 : Addr} {od1 an1 od2 an2 od3 an3 od4 an4 od5 an5 od6 an6 od7 an7 od8 an8 od9 an9 od10 an10 od11 an11 od12 an12 od13 an13 od14 an14 od15 an15 od16 an16 od17 an17 od18 an18 od19 an19 od20 an20 od21 an21 od22 an22 : Option Addr} {sl1 sl2 sl3 sl4 sl5 sl6 sl7 sl8 sl9 sl10 sl11 sl12 sl13 sl14 sl15 sl16 sl17 sl18 sl19 sl20 sl21 sl22 : Array (Option Value)}
    {oc1 kV1 dc1 pm1 cd1 ct1 oc2 kV2 dc2 pm2 cd2 ct2 oc3 kV3 dc3 pm3 cd3 ct3 oc4 kV4 dc4 pm4 cd4 ct4 oc5 kV5 dc5 pm5 cd5 ct5 oc6 kV6 dc6 pm6 cd6 ct6 oc7 kV7 dc7 pm7 cd7 ct7 oc8 kV8 dc8 pm8 cd8 ct8 oc9 kV9 dc9 pm9 cd9 ct9 oc10 kV10 dc10 pm10 cd10 ct10 oc11 kV11 dc11 pm11 cd11 ct11 oc12 kV12 dc12 pm12 cd12 ct12 oc13 kV13 dc13 pm13 cd13 ct13 oc14 kV14 dc14 pm14 cd14 ct14 oc15 kV15 dc15 pm15 cd15 ct15 oc16 kV16 dc16 pm16 cd16 ct16 oc17 kV17 dc17 pm17 cd17 ct17 oc18 kV18 dc18 pm18 cd18 ct18 oc19 kV19 dc19 pm19 cd19 ct19 oc20 kV20 dc20 pm20 cd20 ct20 oc21 kV21 dc21 pm21 cd21 ct21 oc22 kV22 dc22 pm22 cd22 ct22 : Value}
    (gC0 : PySem.W.nsIn K mainGlobals "GrowError" = some (some (.ref C0)))
    (gC1 : PySem.W.nsIn K mainGlobals "InvalidText" = some (some (.ref C1)))
    {nm1 q1 : Str} {N1 : Addr} {bs1 bm1 : List Value} {sn1 : List Str} {su1 : List Value} {ab1 : Bool} {co1 : Option Bool} {dd1 : Option Addr} {ka1 kb1 ke1 kf1 kg1 : Option Value}
    (xl1 : K.lookup C1 = some (excClassObj nm1 q1 C1 N1 bs1 bm1 true sn1 su1 ab1 co1 dd1 ka1 kb1 ke1 kf1 kg1 "ValueError.__new__")) (rv1 : PySem.HandSPX.refsVE bm1 = true)
    (ai1 : PySem.W.findIn K (.ref C1) "__init__" = some (some (.ref f6))) (ti1 : PySem.W.typeIn K (.ref f6) = some (.type "function")) (n1 : PySem.W.findIn K (.ref C1) "at" = some none)
    (sa1 : PySem.W.findIn K (.ref C1) "__setattr__" = some (some (.builtin "object.__setattr__"))) (ga1 : PySem.W.findIn K (.ref C1) "__getattribute__" = some (some (.builtin "BaseException.__getattribute__"))) (gg1 : PySem.W.findIn K (.ref C1) "__getattr__" = some none)
    (kc1 : PySem.W.keepIn K (.ref C1) = true) (eb1 : PySem.W.subIn K (.ref C1) (.type "BaseException") = some true) (ty1 : PySem.W.typeIn K (.ref C1) = some (.type "type")) (hd1 : PySem.W.hasDictIn K C1 = true) (ss1 : PySem.W.subIn K (.ref C1) (.ref C1) = some true)
    (ca1 : PySem.W.findIn K (.ref C1) "__class__" = some (some (.builtin "object.__class__"))) (mo1 : PySem.W.mroIn K C1 (.type "object") = some true)
    (gC2 : PySem.W.nsIn K mainGlobals "InvalidSetting" = some (some (.ref C2)))
    (gC3 : PySem.W.nsIn K mainGlobals "Setting" = some (some (.ref C3)))
    (ai3 : PySem.W.findIn K (.ref C3) "__init__" = some (some (.ref f7))) (if3 : PySem.W.isFn K (.ref f7) = true)
    (pg3 : PySem.W.plainGet K C3 Str.empty = true) (hd3 : PySem.W.hasDictIn K C3 = true) (po3 : PySem.W.plainOver K C3 = true) (sa3 : PySem.W.findIn K (.ref C3) "__setattr__" = some (some (.builtin "object.__setattr__"))) (mk3 : PySem.W.makesIn K C3 = true) (kc3 : PySem.W.keepIn K (.ref C3) = true)
    (n3_source : PySem.W.findIn K (.ref C3) "source" = some none)
    (n3_head : PySem.W.findIn K (.ref C3) "head" = some none)
    (n3_tail : PySem.W.findIn K (.ref C3) "tail" = some none)
    (n3_is_turned : PySem.W.findIn K (.ref C3) "is_turned" = some none)
    (cn : PySem.W.specialIn K (.builtin "object.__class__") "__get__" = some (some (.builtin "getset_descriptor.__get__"))) (ct : PySem.W.takesIn K (.builtin "object.__class__") = some true)
    (is_InvalidText_GrowError : PySem.W.subIn K (.ref C1) (.ref C0) = some true) (ic_InvalidText_GrowError : PySem.W.isClsIn K C0 = true) (ik_InvalidText_GrowError : PySem.W.typeIn K (.ref C0) = some (.type "type"))
    (is_InvalidText_InvalidSetting : PySem.W.subIn K (.ref C1) (.ref C2) = some false) (ic_InvalidText_InvalidSetting : PySem.W.isClsIn K C2 = true) (ik_InvalidText_InvalidSetting : PySem.W.typeIn K (.ref C2) = some (.type "type"))
    (ma9 : PySem.W.findIn K (.ref C3) "__eq__" = some (some (.ref f9))) (mi9 : PySem.W.isFn K (.ref f9) = true)
    (ma10 : PySem.W.findIn K (.ref C3) "__str__" = some (some (.ref f10))) (mi10 : PySem.W.isFn K (.ref f10) = true)
    {cp8 : Addr} {cr8 : List Value} (cf8 : PySem.W.findCls K (.ref C3) (.type "type") "read" = some (.get (.builtin "classmethod.__get__") (.ref cp8) .none (.ref C3))) (cc8 : PySem.W.recIn K cp8 "classmethod" = some (.ref f8 :: cr8)) (ci8 : PySem.W.fnIn K f8 = true)
    (rd8 : PySem.W.readsIn K C3 (.type "type") = true) (gx8 : PySem.W.specialIn K (.ref C3) "__getattribute__" = some (some (.builtin "type.__getattribute__")))
    (r_ca : PySem.W.findIn K (.ref C3) "__class__" = some (some (.builtin "object.__class__")))
    (r_mo : PySem.W.mroIn K C3 (.type "object") = some true)
    (r_cn : PySem.W.specialIn K (.builtin "object.__class__") "__get__" = some (some (.builtin "getset_descriptor.__get__")))
    (r_ct : PySem.W.takesIn K (.builtin "object.__class__") = some true)
    (r_ne : PySem.W.findIn K (.ref C3) "__ne__" = some (some (.builtin "object.__ne__")))
    (r_ic : PySem.W.isClsIn K C3 = true)
    (r_ik : PySem.W.typeIn K (.ref C3) = some (.type "type"))
    (a1 : PySem.W.nsIn K mainGlobals "is_integer" = some (some (.ref f1)))
    (l1 : K.lookup f1 = some ⟨oc1, od1, .func (PySem.W.fnOf "is_integer" "is_integer" (defArgs s_is_integer) (defBody s_is_integer) (defScope s_is_integer) .none kV1 dc1 pm1 an1 cd1 ct1), sl1⟩)
    (c1 : PySem.W.codeIn K cd1 "is_integer" = true) (k1 : PySem.W.keepIn K (.ref f1) = true)
    (a2 : PySem.W.nsIn K mainGlobals "is_number" = some (some (.ref f2)))
    (l2 : K.lookup f2 = some ⟨oc2, od2, .func (PySem.W.fnOf "is_number" "is_number" (defArgs s_is_number) (defBody s_is_number) (defScope s_is_number) .none kV2 dc2 pm2 an2 cd2 ct2), sl2⟩)
    (c2 : PySem.W.codeIn K cd2 "is_number" = true) (k2 : PySem.W.keepIn K (.ref f2) = true)
    (a3 : PySem.W.nsIn K mainGlobals "is_word" = some (some (.ref f3)))
    (l3 : K.lookup f3 = some ⟨oc3, od3, .func (PySem.W.fnOf "is_word" "is_word" (defArgs s_is_word) (defBody s_is_word) (defScope s_is_word) .none kV3 dc3 pm3 an3 cd3 ct3), sl3⟩)
    (c3 : PySem.W.codeIn K cd3 "is_word" = true) (k3 : PySem.W.keepIn K (.ref f3) = true)
    (a4 : PySem.W.nsIn K mainGlobals "is_number_text" = some (some (.ref f4)))
    (l4 : K.lookup f4 = some ⟨oc4, od4, .func (PySem.W.fnOf "is_number_text" "is_number_text" (defArgs s_is_number_text) (defBody s_is_number_text) (defScope s_is_number_text) .none kV4 dc4 pm4 an4 cd4 ct4), sl4⟩)
    (c4 : PySem.W.codeIn K cd4 "is_number_text" = true) (k4 : PySem.W.keepIn K (.ref f4) = true)
    (a5 : PySem.W.nsIn K mainGlobals "first_wrong" = some (some (.ref f5)))
    (l5 : K.lookup f5 = some ⟨oc5, od5, .func (PySem.W.fnOf "first_wrong" "first_wrong" (defArgs s_first_wrong) (defBody s_first_wrong) (defScope s_first_wrong) .none kV5 dc5 pm5 an5 cd5 ct5), sl5⟩)
    (c5 : PySem.W.codeIn K cd5 "first_wrong" = true) (k5 : PySem.W.keepIn K (.ref f5) = true)
    (l6 : K.lookup f6 = some ⟨oc6, od6, .func (PySem.W.fnOf "__init__" "InvalidText.__init__" (defArgs s_InvalidText_init) (defBody s_InvalidText_init) (defScope s_InvalidText_init) .none kV6 dc6 pm6 an6 cd6 ct6), sl6⟩)
    (c6 : PySem.W.codeIn K cd6 "InvalidText.__init__" = true) (k6 : PySem.W.keepIn K (.ref f6) = true)
    {T7 : Addr} {tc7 : Value} {td7 : Option Addr} {tn7 : Nat} {ts7 : Array (Option Value)} {tk7 tl7 : Tok}
    (l7 : K.lookup f7 = some ⟨oc7, od7, .func (PySem.W.fnOf "__init__" "Setting.__init__" (defArgs s_Setting_init) (defBody s_Setting_init) (defScope s_Setting_init) (.ref T7) kV7 dc7 pm7 an7 cd7 ct7), sl7⟩)
    (lt7 : K.lookup T7 = some ⟨tc7, td7, .seq #[.str Str.empty tk7, .str Str.empty tl7, .bool false] tn7, ts7⟩)
    (c7 : PySem.W.codeIn K cd7 "Setting.__init__" = true) (k7 : PySem.W.keepIn K (.ref f7) = true)
    (l8 : K.lookup f8 = some ⟨oc8, od8, .func (PySem.W.fnOf "read" "Setting.read" (defArgs s_Setting_read) (defBody s_Setting_read) (defScope s_Setting_read) .none kV8 dc8 pm8 an8 cd8 ct8), sl8⟩)
    (c8 : PySem.W.codeIn K cd8 "Setting.read" = true) (k8 : PySem.W.keepIn K (.ref f8) = true)
    (l9 : K.lookup f9 = some ⟨oc9, od9, .func (PySem.W.fnOf "__eq__" "Setting.__eq__" (defArgs s_Setting_eq) (defBody s_Setting_eq) (defScope s_Setting_eq) .none kV9 dc9 pm9 an9 cd9 ct9), sl9⟩)
    (c9 : PySem.W.codeIn K cd9 "Setting.__eq__" = true) (k9 : PySem.W.keepIn K (.ref f9) = true)
    (l10 : K.lookup f10 = some ⟨oc10, od10, .func (PySem.W.fnOf "__str__" "Setting.__str__" (defArgs s_Setting_str) (defBody s_Setting_str) (defScope s_Setting_str) .none kV10 dc10 pm10 an10 cd10 ct10), sl10⟩)
    (c10 : PySem.W.codeIn K cd10 "Setting.__str__" = true) (k10 : PySem.W.keepIn K (.ref f10) = true)
    (a11 : PySem.W.nsIn K mainGlobals "_law_seed" = some (some (.ref f11)))
    (l11 : K.lookup f11 = some ⟨oc11, od11, .func (PySem.W.fnOf "_law_seed" "_law_seed" (defArgs s_seed) (defBody s_seed) (defScope s_seed) .none kV11 dc11 pm11 an11 cd11 ct11), sl11⟩)
    (c11 : PySem.W.codeIn K cd11 "_law_seed" = true) (k11 : PySem.W.keepIn K (.ref f11) = true)
    (a12 : PySem.W.nsIn K mainGlobals "_law_choose" = some (some (.ref f12)))
    (l12 : K.lookup f12 = some ⟨oc12, od12, .func (PySem.W.fnOf "_law_choose" "_law_choose" (defArgs s_choose) (defBody s_choose) (defScope s_choose) .none kV12 dc12 pm12 an12 cd12 ct12), sl12⟩)
    (c12 : PySem.W.codeIn K cd12 "_law_choose" = true) (k12 : PySem.W.keepIn K (.ref f12) = true)
    (a13 : PySem.W.nsIn K mainGlobals "_law_one_of" = some (some (.ref f13)))
    (l13 : K.lookup f13 = some ⟨oc13, od13, .func (PySem.W.fnOf "_law_one_of" "_law_one_of" (defArgs s_one_of) (defBody s_one_of) (defScope s_one_of) .none kV13 dc13 pm13 an13 cd13 ct13), sl13⟩)
    (c13 : PySem.W.codeIn K cd13 "_law_one_of" = true) (k13 : PySem.W.keepIn K (.ref f13) = true)
    (a14 : PySem.W.nsIn K mainGlobals "_law_told" = some (some (.ref f14)))
    (l14 : K.lookup f14 = some ⟨oc14, od14, .func (PySem.W.fnOf "_law_told" "_law_told" (defArgs s_told) (defBody s_told) (defScope s_told) .none kV14 dc14 pm14 an14 cd14 ct14), sl14⟩)
    (c14 : PySem.W.codeIn K cd14 "_law_told" = true) (k14 : PySem.W.keepIn K (.ref f14) = true)
    (a15 : PySem.W.nsIn K mainGlobals "_law_set_text" = some (some (.ref f15)))
    (l15 : K.lookup f15 = some ⟨oc15, od15, .func (PySem.W.fnOf "_law_set_text" "_law_set_text" (defArgs s_set_text) (defBody s_set_text) (defScope s_set_text) .none kV15 dc15 pm15 an15 cd15 ct15), sl15⟩)
    (c15 : PySem.W.codeIn K cd15 "_law_set_text" = true) (k15 : PySem.W.keepIn K (.ref f15) = true)
    (a16 : PySem.W.nsIn K mainGlobals "_law_free" = some (some (.ref f16)))
    (l16 : K.lookup f16 = some ⟨oc16, od16, .func (PySem.W.fnOf "_law_free" "_law_free" (defArgs s_free) (defBody s_free) (defScope s_free) .none kV16 dc16 pm16 an16 cd16 ct16), sl16⟩)
    (c16 : PySem.W.codeIn K cd16 "_law_free" = true) (k16 : PySem.W.keepIn K (.ref f16) = true)
    (a17 : PySem.W.nsIn K mainGlobals "_law_set_of" = some (some (.ref f17)))
    (l17 : K.lookup f17 = some ⟨oc17, od17, .func (PySem.W.fnOf "_law_set_of" "_law_set_of" (defArgs s_set_of) (defBody s_set_of) (defScope s_set_of) .none kV17 dc17 pm17 an17 cd17 ct17), sl17⟩)
    (c17 : PySem.W.codeIn K cd17 "_law_set_of" = true) (k17 : PySem.W.keepIn K (.ref f17) = true)
    (a18 : PySem.W.nsIn K mainGlobals "_law_is_plain" = some (some (.ref f18)))
    (l18 : K.lookup f18 = some ⟨oc18, od18, .func (PySem.W.fnOf "_law_is_plain" "_law_is_plain" (defArgs s_is_plain) (defBody s_is_plain) (defScope s_is_plain) .none kV18 dc18 pm18 an18 cd18 ct18), sl18⟩)
    (c18 : PySem.W.codeIn K cd18 "_law_is_plain" = true) (k18 : PySem.W.keepIn K (.ref f18) = true)
    (a19 : PySem.W.nsIn K mainGlobals "_law_is_number" = some (some (.ref f19)))
    (l19 : K.lookup f19 = some ⟨oc19, od19, .func (PySem.W.fnOf "_law_is_number" "_law_is_number" (defArgs s_lis_number) (defBody s_lis_number) (defScope s_lis_number) .none kV19 dc19 pm19 an19 cd19 ct19), sl19⟩)
    (c19 : PySem.W.codeIn K cd19 "_law_is_number" = true) (k19 : PySem.W.keepIn K (.ref f19) = true)
    (a20 : PySem.W.nsIn K mainGlobals "_law_is_good" = some (some (.ref f20)))
    (l20 : K.lookup f20 = some ⟨oc20, od20, .func (PySem.W.fnOf "_law_is_good" "_law_is_good" (defArgs s_is_good) (defBody s_is_good) (defScope s_is_good) .none kV20 dc20 pm20 an20 cd20 ct20), sl20⟩)
    (c20 : PySem.W.codeIn K cd20 "_law_is_good" = true) (k20 : PySem.W.keepIn K (.ref f20) = true)
    (a21 : PySem.W.nsIn K mainGlobals "_law_heard" = some (some (.ref f21)))
    (l21 : K.lookup f21 = some ⟨oc21, od21, .func (PySem.W.fnOf "_law_heard" "_law_heard" (defArgs s_heard) (defBody s_heard) (defScope s_heard) .none kV21 dc21 pm21 an21 cd21 ct21), sl21⟩)
    (c21 : PySem.W.codeIn K cd21 "_law_heard" = true) (k21 : PySem.W.keepIn K (.ref f21) = true)
    (a22 : PySem.W.nsIn K mainGlobals "law" = some (some (.ref f22)))
    (l22 : K.lookup f22 = some ⟨oc22, od22, .func (PySem.W.fnOf "law" "law" (defArgs s_law) (defBody s_law) (defScope s_law) .none kV22 dc22 pm22 an22 cd22 ct22), sl22⟩)
    (c22 : PySem.W.codeIn K cd22 "law" = true) (k22 : PySem.W.keepIn K (.ref f22) = true)
    (z_all : PySem.W.nsIn K mainGlobals "all" = some none)
    (z_abs : PySem.W.nsIn K mainGlobals "abs" = some none)
    (z_bool : PySem.W.nsIn K mainGlobals "bool" = some none)
    (z_int : PySem.W.nsIn K mainGlobals "int" = some none)
    (z_isinstance : PySem.W.nsIn K mainGlobals "isinstance" = some none)
    (z_len : PySem.W.nsIn K mainGlobals "len" = some none)
    (z_list : PySem.W.nsIn K mainGlobals "list" = some none)
    (z_max : PySem.W.nsIn K mainGlobals "max" = some none)
    (z_min : PySem.W.nsIn K mainGlobals "min" = some none)
    (z_range : PySem.W.nsIn K mainGlobals "range" = some none)
    (z_repr : PySem.W.nsIn K mainGlobals "repr" = some none)
    (z_str : PySem.W.nsIn K mainGlobals "str" = some none)
    : ∃ fd : FuncData, (∀ (s : Shared) (v : Value), BindsTo s fd ⟨[v], []⟩ [("_law_script", v)]) ∧ ∀ base : Heap, K.In base → base.Ns mainGlobals mg → FnAt l.prog w K mg base callerA fa fd ["_law_script"] (spLaw K) := by
  have e := hfa.symm.trans (PySem.W.mg_of X G a22)
  cases e
  have F1 : Fun K "is_integer" "is_integer" s_is_integer f1 (PySem.W.fnOf "is_integer" "is_integer" (defArgs s_is_integer) (defBody s_is_integer) (defScope s_is_integer) .none kV1 dc1 pm1 an1 cd1 ct1) := fun_mk l1 c1 k1
  have b1 := F1.binds (ps := ["value"]) fun _ _ _ _ _ _ us hl => match us, hl with | [_], _ => rfl
  have F2 : Fun K "is_number" "is_number" s_is_number f2 (PySem.W.fnOf "is_number" "is_number" (defArgs s_is_number) (defBody s_is_number) (defScope s_is_number) .none kV2 dc2 pm2 an2 cd2 ct2) := fun_mk l2 c2 k2
  have b2 := F2.binds (ps := ["value"]) fun _ _ _ _ _ _ us hl => match us, hl with | [_], _ => rfl
  have F3 : Fun K "is_word" "is_word" s_is_word f3 (PySem.W.fnOf "is_word" "is_word" (defArgs s_is_word) (defBody s_is_word) (defScope s_is_word) .none kV3 dc3 pm3 an3 cd3 ct3) := fun_mk l3 c3 k3
  have b3 := F3.binds (ps := ["value"]) fun _ _ _ _ _ _ us hl => match us, hl with | [_], _ => rfl
  have F4 : Fun K "is_number_text" "is_number_text" s_is_number_text f4 (PySem.W.fnOf "is_number_text" "is_number_text" (defArgs s_is_number_text) (defBody s_is_number_text) (defScope s_is_number_text) .none kV4 dc4 pm4 an4 cd4 ct4) := fun_mk l4 c4 k4
  have b4 := F4.binds (ps := ["word"]) fun _ _ _ _ _ _ us hl => match us, hl with | [_], _ => rfl
  have F5 : Fun K "first_wrong" "first_wrong" s_first_wrong f5 (PySem.W.fnOf "first_wrong" "first_wrong" (defArgs s_first_wrong) (defBody s_first_wrong) (defScope s_first_wrong) .none kV5 dc5 pm5 an5 cd5 ct5) := fun_mk l5 c5 k5
  have b5 := F5.binds (ps := ["source", "head", "tail", "is_turned"]) fun _ _ _ _ _ _ us hl => match us, hl with | [_, _, _, _], _ => rfl
  have F6 : Fun K "__init__" "InvalidText.__init__" s_InvalidText_init f6 (PySem.W.fnOf "__init__" "InvalidText.__init__" (defArgs s_InvalidText_init) (defBody s_InvalidText_init) (defScope s_InvalidText_init) .none kV6 dc6 pm6 an6 cd6 ct6) := fun_mk l6 c6 k6
  have b6 := F6.binds (ps := ["self", "at"]) fun _ _ _ _ _ _ us hl => match us, hl with | [_, _], _ => rfl
  have F7 : FunD K "__init__" "Setting.__init__" (defArgs s_Setting_init) (defBody s_Setting_init) (defScope s_Setting_init) [.str Str.empty, .str Str.empty, .bl false] [] f7 (PySem.W.fnOf "__init__" "Setting.__init__" (defArgs s_Setting_init) (defBody s_Setting_init) (defScope s_Setting_init) (.ref T7) kV7 dc7 pm7 an7 cd7 ct7) :=
    ⟨⟨_, _, _, _, _, _, _, _, _, _, rfl, l7, c7, Or.inr ⟨by decide, T7, _, [.str Str.empty tk7, .str Str.empty tl7, .bool false], tn7, rfl, lt7, rfl, .cons ⟨_, rfl⟩ (.cons ⟨_, rfl⟩ (.cons rfl .nil))⟩, Or.inl rfl⟩, k7⟩
  have b7 : Binds K (PySem.W.fnOf "__init__" "Setting.__init__" (defArgs s_Setting_init) (defBody s_Setting_init) (defScope s_Setting_init) (.ref T7) kV7 dc7 pm7 an7 cd7 ct7) ["self", "source", "head", "tail", "is_turned"] [] := by
    obtain ⟨ds, r, b⟩ := F7.binds1 (ps := ["self", "source", "head", "tail", "is_turned"]) 5 3 (by decide) (by decide) fun _ _ _ _ _ _ _ us its hl hi => match us, hl, its, hi with | [_, _, _, _, _], _, [_, _, _], _ => ⟨_, rfl, rfl⟩
    cases r
    exact b
  have b3_Setting_init := F7.binds1 (ps := ["self", "source", "head", "tail", "is_turned"]) 3 1 (by decide) (by decide) fun _ _ _ _ _ _ _ us its hl hi => match us, hl, its, hi with | [_, _, _], _, [_, _, _], _ => ⟨_, rfl, rfl⟩
  have F8 : Fun K "read" "Setting.read" s_Setting_read f8 (PySem.W.fnOf "read" "Setting.read" (defArgs s_Setting_read) (defBody s_Setting_read) (defScope s_Setting_read) .none kV8 dc8 pm8 an8 cd8 ct8) := fun_mk l8 c8 k8
  have b8 := F8.binds (ps := ["cls", "text"]) fun _ _ _ _ _ _ us hl => match us, hl with | [_, _], _ => rfl
  have F9 : Fun K "__eq__" "Setting.__eq__" s_Setting_eq f9 (PySem.W.fnOf "__eq__" "Setting.__eq__" (defArgs s_Setting_eq) (defBody s_Setting_eq) (defScope s_Setting_eq) .none kV9 dc9 pm9 an9 cd9 ct9) := fun_mk l9 c9 k9
  have b9 := F9.binds (ps := ["self", "other"]) fun _ _ _ _ _ _ us hl => match us, hl with | [_, _], _ => rfl
  have F10 : Fun K "__str__" "Setting.__str__" s_Setting_str f10 (PySem.W.fnOf "__str__" "Setting.__str__" (defArgs s_Setting_str) (defBody s_Setting_str) (defScope s_Setting_str) .none kV10 dc10 pm10 an10 cd10 ct10) := fun_mk l10 c10 k10
  have b10 := F10.binds (ps := ["self"]) fun _ _ _ _ _ _ us hl => match us, hl with | [_], _ => rfl
  have F11 : Fun K "_law_seed" "_law_seed" s_seed f11 (PySem.W.fnOf "_law_seed" "_law_seed" (defArgs s_seed) (defBody s_seed) (defScope s_seed) .none kV11 dc11 pm11 an11 cd11 ct11) := fun_mk l11 c11 k11
  have b11 := F11.binds (ps := ["_law_script", "_law_k"]) fun _ _ _ _ _ _ us hl => match us, hl with | [_, _], _ => rfl
  have F12 : Fun K "_law_choose" "_law_choose" s_choose f12 (PySem.W.fnOf "_law_choose" "_law_choose" (defArgs s_choose) (defBody s_choose) (defScope s_choose) .none kV12 dc12 pm12 an12 cd12 ct12) := fun_mk l12 c12 k12
  have b12 := F12.binds (ps := ["_law_box", "_law_many"]) fun _ _ _ _ _ _ us hl => match us, hl with | [_, _], _ => rfl
  have F13 : Fun K "_law_one_of" "_law_one_of" s_one_of f13 (PySem.W.fnOf "_law_one_of" "_law_one_of" (defArgs s_one_of) (defBody s_one_of) (defScope s_one_of) .none kV13 dc13 pm13 an13 cd13 ct13) := fun_mk l13 c13 k13
  have b13 := F13.binds (ps := ["_law_box", "_law_some"]) fun _ _ _ _ _ _ us hl => match us, hl with | [_, _], _ => rfl
  have F14 : Fun K "_law_told" "_law_told" s_told f14 (PySem.W.fnOf "_law_told" "_law_told" (defArgs s_told) (defBody s_told) (defScope s_told) .none kV14 dc14 pm14 an14 cd14 ct14) := fun_mk l14 c14 k14
  have b14 := F14.binds (ps := ["_law_box", "_law_marks", "_law_most"]) fun _ _ _ _ _ _ us hl => match us, hl with | [_, _, _], _ => rfl
  have F15 : Fun K "_law_set_text" "_law_set_text" s_set_text f15 (PySem.W.fnOf "_law_set_text" "_law_set_text" (defArgs s_set_text) (defBody s_set_text) (defScope s_set_text) .none kV15 dc15 pm15 an15 cd15 ct15) := fun_mk l15 c15 k15
  have b15 := F15.binds (ps := ["_law_one"]) fun _ _ _ _ _ _ us hl => match us, hl with | [_], _ => rfl
  have F16 : Fun K "_law_free" "_law_free" s_free f16 (PySem.W.fnOf "_law_free" "_law_free" (defArgs s_free) (defBody s_free) (defScope s_free) .none kV16 dc16 pm16 an16 cd16 ct16) := fun_mk l16 c16 k16
  have b16 := F16.binds (ps := ["_law_box", "_law_marks"]) fun _ _ _ _ _ _ us hl => match us, hl with | [_, _], _ => rfl
  have F17 : Fun K "_law_set_of" "_law_set_of" s_set_of f17 (PySem.W.fnOf "_law_set_of" "_law_set_of" (defArgs s_set_of) (defBody s_set_of) (defScope s_set_of) .none kV17 dc17 pm17 an17 cd17 ct17) := fun_mk l17 c17 k17
  have b17 := F17.binds (ps := ["_law_one"]) fun _ _ _ _ _ _ us hl => match us, hl with | [_], _ => rfl
  have F18 : Fun K "_law_is_plain" "_law_is_plain" s_is_plain f18 (PySem.W.fnOf "_law_is_plain" "_law_is_plain" (defArgs s_is_plain) (defBody s_is_plain) (defScope s_is_plain) .none kV18 dc18 pm18 an18 cd18 ct18) := fun_mk l18 c18 k18
  have b18 := F18.binds (ps := ["_law_value"]) fun _ _ _ _ _ _ us hl => match us, hl with | [_], _ => rfl
  have F19 : Fun K "_law_is_number" "_law_is_number" s_lis_number f19 (PySem.W.fnOf "_law_is_number" "_law_is_number" (defArgs s_lis_number) (defBody s_lis_number) (defScope s_lis_number) .none kV19 dc19 pm19 an19 cd19 ct19) := fun_mk l19 c19 k19
  have b19 := F19.binds (ps := ["_law_word"]) fun _ _ _ _ _ _ us hl => match us, hl with | [_], _ => rfl
  have F20 : Fun K "_law_is_good" "_law_is_good" s_is_good f20 (PySem.W.fnOf "_law_is_good" "_law_is_good" (defArgs s_is_good) (defBody s_is_good) (defScope s_is_good) .none kV20 dc20 pm20 an20 cd20 ct20) := fun_mk l20 c20 k20
  have b20 := F20.binds (ps := ["_law_given"]) fun _ _ _ _ _ _ us hl => match us, hl with | [_], _ => rfl
  have F21 : Fun K "_law_heard" "_law_heard" s_heard f21 (PySem.W.fnOf "_law_heard" "_law_heard" (defArgs s_heard) (defBody s_heard) (defScope s_heard) .none kV21 dc21 pm21 an21 cd21 ct21) := fun_mk l21 c21 k21
  have b21 := F21.binds (ps := ["_law_given"]) fun _ _ _ _ _ _ us hl => match us, hl with | [_], _ => rfl
  have F22 : Fun K "law" "law" s_law fa (PySem.W.fnOf "law" "law" (defArgs s_law) (defBody s_law) (defScope s_law) .none kV22 dc22 pm22 an22 cd22 ct22) := fun_mk l22 c22 k22
  have b22 := F22.binds (ps := ["_law_script"]) fun _ _ _ _ _ _ us hl => match us, hl with | [_], _ => rfl
  have T : Txt K mg ⟨f1, f2, f3, f4, f5, f6, f7, f8, f9, f10, f11, f12, f13, f14, f15, f16, f17, f18, f19, f20, f21, fa,
    (PySem.W.fnOf "is_integer" "is_integer" (defArgs s_is_integer) (defBody s_is_integer) (defScope s_is_integer) .none kV1 dc1 pm1 an1 cd1 ct1),
    (PySem.W.fnOf "is_number" "is_number" (defArgs s_is_number) (defBody s_is_number) (defScope s_is_number) .none kV2 dc2 pm2 an2 cd2 ct2),
    (PySem.W.fnOf "is_word" "is_word" (defArgs s_is_word) (defBody s_is_word) (defScope s_is_word) .none kV3 dc3 pm3 an3 cd3 ct3),
    (PySem.W.fnOf "is_number_text" "is_number_text" (defArgs s_is_number_text) (defBody s_is_number_text) (defScope s_is_number_text) .none kV4 dc4 pm4 an4 cd4 ct4),
    (PySem.W.fnOf "first_wrong" "first_wrong" (defArgs s_first_wrong) (defBody s_first_wrong) (defScope s_first_wrong) .none kV5 dc5 pm5 an5 cd5 ct5),
    (PySem.W.fnOf "__init__" "InvalidText.__init__" (defArgs s_InvalidText_init) (defBody s_InvalidText_init) (defScope s_InvalidText_init) .none kV6 dc6 pm6 an6 cd6 ct6),
    (PySem.W.fnOf "__init__" "Setting.__init__" (defArgs s_Setting_init) (defBody s_Setting_init) (defScope s_Setting_init) (.ref T7) kV7 dc7 pm7 an7 cd7 ct7),
    (PySem.W.fnOf "read" "Setting.read" (defArgs s_Setting_read) (defBody s_Setting_read) (defScope s_Setting_read) .none kV8 dc8 pm8 an8 cd8 ct8),
    (PySem.W.fnOf "__eq__" "Setting.__eq__" (defArgs s_Setting_eq) (defBody s_Setting_eq) (defScope s_Setting_eq) .none kV9 dc9 pm9 an9 cd9 ct9),
    (PySem.W.fnOf "__str__" "Setting.__str__" (defArgs s_Setting_str) (defBody s_Setting_str) (defScope s_Setting_str) .none kV10 dc10 pm10 an10 cd10 ct10),
    (PySem.W.fnOf "_law_seed" "_law_seed" (defArgs s_seed) (defBody s_seed) (defScope s_seed) .none kV11 dc11 pm11 an11 cd11 ct11),
    (PySem.W.fnOf "_law_choose" "_law_choose" (defArgs s_choose) (defBody s_choose) (defScope s_choose) .none kV12 dc12 pm12 an12 cd12 ct12),
    (PySem.W.fnOf "_law_one_of" "_law_one_of" (defArgs s_one_of) (defBody s_one_of) (defScope s_one_of) .none kV13 dc13 pm13 an13 cd13 ct13),
    (PySem.W.fnOf "_law_told" "_law_told" (defArgs s_told) (defBody s_told) (defScope s_told) .none kV14 dc14 pm14 an14 cd14 ct14),
    (PySem.W.fnOf "_law_set_text" "_law_set_text" (defArgs s_set_text) (defBody s_set_text) (defScope s_set_text) .none kV15 dc15 pm15 an15 cd15 ct15),
    (PySem.W.fnOf "_law_free" "_law_free" (defArgs s_free) (defBody s_free) (defScope s_free) .none kV16 dc16 pm16 an16 cd16 ct16),
    (PySem.W.fnOf "_law_set_of" "_law_set_of" (defArgs s_set_of) (defBody s_set_of) (defScope s_set_of) .none kV17 dc17 pm17 an17 cd17 ct17),
    (PySem.W.fnOf "_law_is_plain" "_law_is_plain" (defArgs s_is_plain) (defBody s_is_plain) (defScope s_is_plain) .none kV18 dc18 pm18 an18 cd18 ct18),
    (PySem.W.fnOf "_law_is_number" "_law_is_number" (defArgs s_lis_number) (defBody s_lis_number) (defScope s_lis_number) .none kV19 dc19 pm19 an19 cd19 ct19),
    (PySem.W.fnOf "_law_is_good" "_law_is_good" (defArgs s_is_good) (defBody s_is_good) (defScope s_is_good) .none kV20 dc20 pm20 an20 cd20 ct20),
    (PySem.W.fnOf "_law_heard" "_law_heard" (defArgs s_heard) (defBody s_heard) (defScope s_heard) .none kV21 dc21 pm21 an21 cd21 ct21),
    (PySem.W.fnOf "law" "law" (defArgs s_law) (defBody s_law) (defScope s_law) .none kV22 dc22 pm22 an22 cd22 ct22), C0, C1, C2, C3⟩ :=
    ⟨PySem.W.mg_of X G a1,
    k1,
    F1,
    b1,
    PySem.W.mg_of X G a2,
    k2,
    F2,
    b2,
    PySem.W.mg_of X G a3,
    k3,
    F3,
    b3,
    PySem.W.mg_of X G a4,
    k4,
    F4,
    b4,
    PySem.W.mg_of X G a5,
    k5,
    F5,
    b5,
    k6,
    F6,
    b6,
    F7,
    b7,
    k8,
    F8,
    b8,
    k9,
    F9,
    b9,
    k10,
    F10,
    b10,
    PySem.W.mg_of X G a11,
    k11,
    F11,
    b11,
    PySem.W.mg_of X G a12,
    k12,
    F12,
    b12,
    PySem.W.mg_of X G a13,
    k13,
    F13,
    b13,
    PySem.W.mg_of X G a14,
    k14,
    F14,
    b14,
    PySem.W.mg_of X G a15,
    k15,
    F15,
    b15,
    PySem.W.mg_of X G a16,
    k16,
    F16,
    b16,
    PySem.W.mg_of X G a17,
    k17,
    F17,
    b17,
    PySem.W.mg_of X G a18,
    k18,
    F18,
    b18,
    PySem.W.mg_of X G a19,
    k19,
    F19,
    b19,
    PySem.W.mg_of X G a20,
    k20,
    F20,
    b20,
    PySem.W.mg_of X G a21,
    k21,
    F21,
    b21,
    PySem.W.mg_of X G a22,
    k22,
    F22,
    b22,
    PySem.W.mg_of X G gC0,
    PySem.W.mg_of X G gC1,
    ⟨⟨_, _, _, _, _, _, _, _, _, _, _, _, _, _, _, xl1, rv1⟩, sa1, eb1, ty1, kc1⟩,
    ai1,
    ti1,
    n1,
    ⟨ga1, gg1, eb1, hd1⟩,
    ⟨ga1, gg1, eb1, hd1, ca1, cn, ct, mo1⟩,
    exm_self eb1 hd1 ty1 ss1,
    PySem.W.mg_of X G gC2,
    PySem.W.mg_of X G gC3,
    ⟨pg3, hd3, po3, sa3⟩,
    ⟨mk3, ai3, if3, kc3⟩,
    n3_source,
    n3_head,
    n3_tail,
    n3_is_turned,
    kit_own is_InvalidText_GrowError ic_InvalidText_GrowError ik_InvalidText_GrowError ss1,
    kit_own is_InvalidText_InvalidSetting ic_InvalidText_InvalidSetting ik_InvalidText_InvalidSetting ss1,
    ⟨ma9, mi9, k9⟩,
    ⟨ma10, mi10, k10⟩,
    ⟨cp8, cf8, ⟨_, cc8⟩, ci8⟩,
    ⟨rd8, gx8⟩,
    r_ca,
    r_mo,
    r_cn,
    r_ct,
    r_ne,
    r_ic,
    r_ik,
    b3_Setting_init,
    PySem.W.mg_none_of X G z_all,
    PySem.W.mg_none_of X G z_abs,
    PySem.W.mg_none_of X G z_bool,
    PySem.W.mg_none_of X G z_int,
    PySem.W.mg_none_of X G z_isinstance,
    PySem.W.mg_none_of X G z_len,
    PySem.W.mg_none_of X G z_list,
    PySem.W.mg_none_of X G z_max,
    PySem.W.mg_none_of X G z_min,
    PySem.W.mg_none_of X G z_range,
    PySem.W.mg_none_of X G z_repr,
    PySem.W.mg_none_of X G z_str⟩
  exact ⟨(PySem.W.fnOf "law" "law" (defArgs s_law) (defBody s_law) (defScope s_law) .none kV22 dc22 pm22 an22 cd22 ct22), fun s v => .of_eq rfl, fun base _ _ => ok_law T⟩
end My
open PySem PySem.W PyProof.Rows
set_option maxHeartbeats 0 in
theorem PySem.Challenge.cw_growntexts_k04_texts_of_settings_holds : PySem.Challenge.rw_growntexts_k04_texts_of_settings.Holds := by
  w_on; o_law; k_head; (case hw => w_witness2)
  k_fill
  refine My.walk_at_ (l := PySem.Challenge.rw_growntexts_k04_texts_of_settings) (n := 63) (x := "_law_script") (sp := fun w => My.spLaw _) rfl (by decide) rfl
    (fun w h Y => PySem.W.kIn_of Y) ?F (fun _ _ a ns hl _ hS => ⟨a, ns, rfl, hS, hl, fun _ => rfl⟩)
  case F =>
    intro w mg fa h KX G hmg
    refine' My.all_mk KX G hmg ?gC0 ?gC1 ?xl1 ?rv1 ?ai1 ?ti1 ?n1 ?sa1 ?ga1 ?gg1 ?kc1 ?eb1 ?ty1 ?hd1 ?ss1 ?ca1 ?mo1 ?gC2 ?gC3 ?ai3 ?if3 ?pg3 ?hd3 ?po3 ?sa3 ?mk3 ?kc3 ?n3_source ?n3_head ?n3_tail ?n3_is_turned ?cn ?ct ?is_InvalidText_GrowError ?ic_InvalidText_GrowError ?ik_InvalidText_GrowError ?is_InvalidText_InvalidSetting ?ic_InvalidText_InvalidSetting ?ik_InvalidText_InvalidSetting ?ma9 ?mi9 ?ma10 ?mi10 ?cf8 ?cc8 ?ci8 ?rd8 ?gx8 ?r_ca ?r_mo ?r_cn ?r_ct ?r_ne ?r_ic ?r_ik ?a1 ?l1 ?c1 ?k1 ?a2 ?l2 ?c2 ?k2 ?a3 ?l3 ?c3 ?k3 ?a4 ?l4 ?c4 ?k4 ?a5 ?l5 ?c5 ?k5 ?l6 ?c6 ?k6 ?l7 ?lt7 ?c7 ?k7 ?l8 ?c8 ?k8 ?l9 ?c9 ?k9 ?l10 ?c10 ?k10 ?a11 ?l11 ?c11 ?k11 ?a12 ?l12 ?c12 ?k12 ?a13 ?l13 ?c13 ?k13 ?a14 ?l14 ?c14 ?k14 ?a15 ?l15 ?c15 ?k15 ?a16 ?l16 ?c16 ?k16 ?a17 ?l17 ?c17 ?k17 ?a18 ?l18 ?c18 ?k18 ?a19 ?l19 ?c19 ?k19 ?a20 ?l20 ?c20 ?k20 ?a21 ?l21 ?c21 ?k21 ?a22 ?l22 ?c22 ?k22 ?z_all ?z_abs ?z_bool ?z_int ?z_isinstance ?z_len ?z_list ?z_max ?z_min ?z_range ?z_repr ?z_str
    (case gC0 => k_is)
    (case gC1 => k_is)
    (case xl1 => k_is)
    (case rv1 => decide +kernel)
    (case ai1 => k_is)
    (case ti1 => k_is)
    (case n1 => k_is)
    (case sa1 => k_is)
    (case ga1 => k_is)
    (case gg1 => k_is)
    (case kc1 => k_is)
    (case eb1 => k_is)
    (case ty1 => k_is)
    (case hd1 => k_is)
    (case ss1 => k_is)
    (case ca1 => k_is)
    (case mo1 => k_is)
    (case gC2 => k_is)
    (case gC3 => k_is)
    (case ai3 => k_is)
    (case if3 => k_is)
    (case pg3 => k_is)
    (case hd3 => k_is)
    (case po3 => k_is)
    (case sa3 => k_is)
    (case mk3 => k_is)
    (case kc3 => k_is)
    (case n3_source => k_is)
    (case n3_head => k_is)
    (case n3_tail => k_is)
    (case n3_is_turned => k_is)
    (case cn => k_is)
    (case ct => k_is)
    (case is_InvalidText_GrowError => k_is)
    (case ic_InvalidText_GrowError => k_is)
    (case ik_InvalidText_GrowError => k_is)
    (case is_InvalidText_InvalidSetting => k_is)
    (case ic_InvalidText_InvalidSetting => k_is)
    (case ik_InvalidText_InvalidSetting => k_is)
    (case ma9 => k_is)
    (case mi9 => k_is)
    (case ma10 => k_is)
    (case mi10 => k_is)
    (case cf8 => k_is)
    (case cc8 => k_is)
    (case ci8 => k_is)
    (case rd8 => k_is)
    (case gx8 => k_is)
    (case r_ca => k_is)
    (case r_mo => k_is)
    (case r_cn => k_is)
    (case r_ct => k_is)
    (case r_ne => k_is)
    (case r_ic => k_is)
    (case r_ik => k_is)
    (case a1 => k_is)
    (case l1 => k_is)
    (case c1 => k_is)
    (case k1 => k_is)
    (case a2 => k_is)
    (case l2 => k_is)
    (case c2 => k_is)
    (case k2 => k_is)
    (case a3 => k_is)
    (case l3 => k_is)
    (case c3 => k_is)
    (case k3 => k_is)
    (case a4 => k_is)
    (case l4 => k_is)
    (case c4 => k_is)
    (case k4 => k_is)
    (case a5 => k_is)
    (case l5 => k_is)
    (case c5 => k_is)
    (case k5 => k_is)
    (case l6 => k_is)
    (case c6 => k_is)
    (case k6 => k_is)
    (case l7 => k_is)
    (case lt7 => k_is)
    (case c7 => k_is)
    (case k7 => k_is)
    (case l8 => k_is)
    (case c8 => k_is)
    (case k8 => k_is)
    (case l9 => k_is)
    (case c9 => k_is)
    (case k9 => k_is)
    (case l10 => k_is)
    (case c10 => k_is)
    (case k10 => k_is)
    (case a11 => k_is)
    (case l11 => k_is)
    (case c11 => k_is)
    (case k11 => k_is)
    (case a12 => k_is)
    (case l12 => k_is)
    (case c12 => k_is)
    (case k12 => k_is)
    (case a13 => k_is)
    (case l13 => k_is)
    (case c13 => k_is)
    (case k13 => k_is)
    (case a14 => k_is)
    (case l14 => k_is)
    (case c14 => k_is)
    (case k14 => k_is)
    (case a15 => k_is)
    (case l15 => k_is)
    (case c15 => k_is)
    (case k15 => k_is)
    (case a16 => k_is)
    (case l16 => k_is)
    (case c16 => k_is)
    (case k16 => k_is)
    (case a17 => k_is)
    (case l17 => k_is)
    (case c17 => k_is)
    (case k17 => k_is)
    (case a18 => k_is)
    (case l18 => k_is)
    (case c18 => k_is)
    (case k18 => k_is)
    (case a19 => k_is)
    (case l19 => k_is)
    (case c19 => k_is)
    (case k19 => k_is)
    (case a20 => k_is)
    (case l20 => k_is)
    (case c20 => k_is)
    (case k20 => k_is)
    (case a21 => k_is)
    (case l21 => k_is)
    (case c21 => k_is)
    (case k21 => k_is)
    (case a22 => k_is)
    (case l22 => k_is)
    (case c22 => k_is)
    (case k22 => k_is)
    (case z_all => k_is)
    (case z_abs => k_is)
    (case z_bool => k_is)
    (case z_int => k_is)
    (case z_isinstance => k_is)
    (case z_len => k_is)
    (case z_list => k_is)
    (case z_max => k_is)
    (case z_min => k_is)
    (case z_range => k_is)
    (case z_repr => k_is)
    (case z_str => k_is)
