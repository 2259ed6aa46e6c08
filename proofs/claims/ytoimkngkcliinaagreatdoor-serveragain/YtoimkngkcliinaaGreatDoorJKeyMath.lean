/- KeyMath, KeyA, KeyF, KeyD, joined. -/
import Derived.WalkKit
import Derived.ProofKit
import Derived.Laws.Bits64
import Derived.Below
import Derived.WalkSpells
import Derived.Deep.RegionHeld3
import Derived.Test.YtoimkngkcliinaaGreatDoorChecked
import Derived.Laws.BitsAllLaws
namespace Go.Proofs.YtoimkngkcliinaaGreatDoor.Rt
open Go.RowKit
theorem ret_int {k:IntKind} {a b:Int} (h:a=b):Ending.returned (.int k a)=.returned (.int k b):=by rw [h]
theorem ret_bool {a b:Bool} (h:a=b):Ending.returned (.bool a)=.returned (.bool b):=by rw [h]
def Gd (b s:Int):Prop:=1≤b∧b≤65535∧0≤s∧s≤255
def gd (b s:Int):Bool:=decide (1≤b)&&(decide (b≤65535)&&(decide (0≤s)&&decide (s≤255)))
theorem gd_yes {b s:Int} (h:Gd b s):gd b s=true:=by simp [gd,h.1,h.2.1,h.2.2.1,h.2.2.2]
theorem gd_no {b s:Int} (h:¬Gd b s):gd b s=false:=by
 rw [Bool.eq_false_iff];intro hh;simp [gd] at hh;exact h hh
theorem below1 (w:World) (o:Obj):Below w.heap.size w (w.alloc o):=(Below.refl _ _).alloc (Nat.le_refl _) _
theorem Below.more {w0 w:World} (h:Below w0.heap.size w0 w) (o:Obj):Below w0.heap.size w0 (w.alloc o):=h.alloc h.size _
theorem good_yes (b s:Int) (h:Gd b s) (w:World):
  Calls Tryz.prog 224 #[.agg #[.int .i64 b,.int .i64 s]] w fun e w'=>e=.returned (.bool true)∧w'=w.alloc (.cells #[.int .i64 b,.int .i64 s] 46):=by
 obtain ⟨h1,h2,h3,h4⟩:=h;go_enter Tryz.func224,Tryz.ntmps224;go_wp2
 go_ret;exact ⟨rfl,rfl⟩
theorem good_no (b s:Int) (h:¬Gd b s) (w:World):
  Calls Tryz.prog 224 #[.agg #[.int .i64 b,.int .i64 s]] w fun e w'=>e=.returned (.bool false)∧w'=w.alloc (.cells #[.int .i64 b,.int .i64 s] 46):=by
 by_cases h1:1≤b
 ·by_cases h2:b≤65535
  ·by_cases h3:0≤s
   ·have h4:decide (s≤255)=false:=by unfold Gd at h;simp;omega
    clear h;go_enter Tryz.func224,Tryz.ntmps224;go_wp2
    go_ret;exact ⟨ret_bool (by first | rfl | exact h4),rfl⟩
   ·clear h;go_enter Tryz.func224,Tryz.ntmps224;go_wp2
    go_ret;exact ⟨rfl,rfl⟩
  ·clear h;go_enter Tryz.func224,Tryz.ntmps224;go_wp2
   go_ret;exact ⟨rfl,rfl⟩
 ·clear h;go_enter Tryz.func224,Tryz.ntmps224;go_wp2
  go_ret;exact ⟨rfl,rfl⟩
theorem good_any (b s:Int) (w:World):
  Calls Tryz.prog 224 #[.agg #[.int .i64 b,.int .i64 s]] w fun e w'=>e=.returned (.bool (gd b s))∧w'=w.alloc (.cells #[.int .i64 b,.int .i64 s] 46):=by
 by_cases h:Gd b s
 ·rw [gd_yes h];exact good_yes b s h w
 ·rw [gd_no h];exact good_no b s h w
theorem rGood_yes (b s:Int) (h:Gd b s) (w:World):
  Calls Tryz.prog 156 #[.agg #[.int .i64 b,.int .i64 s]] w fun e w'=>e=.returned (.bool true)∧w'=w.alloc (.cells #[.int .i64 b,.int .i64 s] 46):=by
 obtain ⟨h1,h2,h3,h4⟩:=h;go_enter Tryz.func156,Tryz.ntmps156;go_wp2
 go_ret;exact ⟨rfl,rfl⟩
theorem rGood_no (b s:Int) (h:¬Gd b s) (w:World):
  Calls Tryz.prog 156 #[.agg #[.int .i64 b,.int .i64 s]] w fun e w'=>e=.returned (.bool false)∧w'=w.alloc (.cells #[.int .i64 b,.int .i64 s] 46):=by
 by_cases h1:1≤b
 ·by_cases h2:b≤65535
  ·by_cases h3:0≤s
   ·have h4:decide (s≤255)=false:=by unfold Gd at h;simp;omega
    clear h;go_enter Tryz.func156,Tryz.ntmps156;go_wp2
    go_ret;exact ⟨ret_bool (by first | rfl | exact h4),rfl⟩
   ·clear h;go_enter Tryz.func156,Tryz.ntmps156;go_wp2
    go_ret;exact ⟨rfl,rfl⟩
  ·clear h;go_enter Tryz.func156,Tryz.ntmps156;go_wp2
   go_ret;exact ⟨rfl,rfl⟩
 ·clear h;go_enter Tryz.func156,Tryz.ntmps156;go_wp2
  go_ret;exact ⟨rfl,rfl⟩
theorem rGood_any (b s:Int) (w:World):
  Calls Tryz.prog 156 #[.agg #[.int .i64 b,.int .i64 s]] w fun e w'=>e=.returned (.bool (gd b s))∧w'=w.alloc (.cells #[.int .i64 b,.int .i64 s] 46):=by
 by_cases h:Gd b s
 ·rw [gd_yes h];exact rGood_yes b s h w
 ·rw [gd_no h];exact rGood_no b s h w
theorem ahead_far (b s n:Int) (h:Gd b s) (hn:n<0∨255 - s<n) (w:World):
  Calls Tryz.prog 233 #[.agg #[.int .i64 b,.int .i64 s],.int .i64 n] w fun e w'=>e=.returned (.tuple #[.agg #[.int .i64 0,.int .i64 0],.int .i64 4])∧Below w.heap.size w w':=by
 have h4:=h.2.2.2;have h3:=h.2.2.1;by_cases h0:n<0
 ·go_enter Tryz.func233,Tryz.ntmps233;go_wp2_with (go_at_call 224;refine (good_yes _ _ h _).mono ?_;rintro e w' ⟨rfl,rfl⟩)
  exact bodyPost_ret (v:=.tuple #[.agg #[.int .i64 0,.int .i64 0],.int .i64 4]) (by simp [results,Tryz.results233,go_sem]) rfl ⟨rfl,Below.more (Below.more (below1 _ _) _) _⟩
 ·have h1:255 - s<n:=by omega
  clear hn;go_enter Tryz.func233,Tryz.ntmps233;go_wp2_with (go_at_call 224;refine (good_yes _ _ h _).mono ?_;rintro e w' ⟨rfl,rfl⟩)
  exact bodyPost_ret (v:=.tuple #[.agg #[.int .i64 0,.int .i64 0],.int .i64 4]) (by simp [results,Tryz.results233,go_sem]) rfl ⟨rfl,Below.more (Below.more (below1 _ _) _) _⟩
theorem ahead_yes (b s n:Int) (h:Gd b s) (h0:0≤n) (h1:n≤255 - s) (w:World):
  Calls Tryz.prog 233 #[.agg #[.int .i64 b,.int .i64 s],.int .i64 n] w fun e w'=>e=.returned (.tuple #[.agg #[.int .i64 b,.int .i64 (s+n)],.int .i64 0])∧Below w.heap.size w w':=by
 have h4:=h.2.2.2;have h3:=h.2.2.1;go_enter Tryz.func233,Tryz.ntmps233;go_wp2_with (go_at_call 224;refine (good_yes _ _ h _).mono ?_;rintro e w' ⟨rfl,rfl⟩)
 exact bodyPost_ret (v:=.tuple #[.agg #[.int .i64 b,.int .i64 (s+n)],.int .i64 0]) (by simp [results,Tryz.results233,go_sem]) rfl ⟨rfl,Below.more (Below.more (below1 _ _) _) _⟩
theorem goodBox_yes (a b c d:Int) (h:Gd a b) (k:Gd c d) (w:World):
  Calls Tryz.prog 278 #[.agg #[.int .i64 a,.int .i64 b,.int .i64 c,.int .i64 d]] w fun e w'=>e=.returned (.bool true)∧w'=((w.alloc (.cells #[.int .i64 a,.int .i64 b,.int .i64 c,.int .i64 d] 85)).alloc (.cells #[.int .i64 a,.int .i64 b] 46)).alloc (.cells #[.int .i64 c,.int .i64 d] 46):=by
 have hg:=gd_yes h;have hk:=gd_yes k;go_enter Tryz.func278,Tryz.ntmps278;go_wp2_with (go_at_call 224;refine (good_any _ _ _).mono ?_;rintro e w' ⟨rfl,rfl⟩)
 go_ret;exact ⟨rfl,rfl⟩
theorem seal_yes (a b c d:Int) (h:Gd a b) (k:Gd c d) (w:World):
  Calls Tryz.prog 209 #[.agg #[.int .i64 a,.int .i64 b],.agg #[.int .i64 c,.int .i64 d]] w fun e w'=>e=.returned (.tuple #[.agg #[.int .i64 a,.int .i64 b,.int .i64 c,.int .i64 d],.int .i64 0])∧Below w.heap.size w w':=by
 go_enter Tryz.func209,Tryz.ntmps209;go_wp2_with fail
 refine (goodBox_yes a b c d h k _).mono ?_;rintro e w' ⟨rfl,rfl⟩;go_wp2
 exact bodyPost_ret (v:=.tuple #[.agg #[.int .i64 a,.int .i64 b,.int .i64 c,.int .i64 d],.int .i64 0]) (by simp [results,Tryz.results209,go_sem]) rfl ⟨rfl,Below.more (Below.more (Below.more (Below.more (Below.more (Below.more (below1 _ _) _) _) _) _) _) _⟩
theorem or256 (b s:Int) (h1:0≤b) (h2:b≤65535) (h3:0≤s) (h4:s≤255):bits .or .u32 (b * 256) s=b * 256+s:=by
 rw [u32_or _ _ (by omega) (by omega) (by omega) (by omega),nat_join 8 _ _ (by omega) (by omega)];omega
theorem pack_yes (b s:Int) (h:Gd b s) (w:World):
  Calls Tryz.prog 292 #[.agg #[.int .i64 b,.int .i64 s]] w fun e w'=>e=.returned (.tuple #[.int .u32 (b * 256+s),.int .i64 0])∧w'=(w.alloc (.cells #[.int .i64 b,.int .i64 s] 46)).alloc (.cells #[.int .i64 b,.int .i64 s] 46):=by
 obtain ⟨h1,h2,h3,h4⟩:=id h;have ho:=or256 b s (by omega) h2 h3 h4;go_enter Tryz.func292,Tryz.ntmps292;go_wp2_with (go_at_call 224;refine (good_yes _ _ h _).mono ?_;rintro e w' ⟨rfl,rfl⟩)
 go_ret2
 exact ⟨rfl,rfl⟩
end Go.Proofs.YtoimkngkcliinaaGreatDoor.Rt
