/- RecordSame: its end. -/
import Derived.Test.YtpbdamnlfpfclaaSmA
namespace Go.Proofs.Ytpbdamnlfpfclaa
open Go.RowKit
attribute [local irreducible] wpQuiet
set_option linter.unusedSimpArgs false
set_option linter.unusedVariables false

/-- The slots, while the region runs. -/
structure Z41S (x A7 A9 : Array Value) (g p7 p9 kk : Nat) (t : St) (ch : Bool) (f0 f1 f4 f5 f8 f10 f11 f12 f13 f14 f16 f17 f18 f19 f20 f21 f22 f23 f24 f25 f26 f27 f28 f29 f30 f31 f32 f33 f34 f35 f36 f37 f38 f39 f40 f41 f42 f43 f44 f45 f46 f47 f48 f49 f50 f51 f52 f53 f54 f55 f56 f57 f58 f59 f60 f61 f62 f63 f64 f65 f66 f67 f68 f69 f70 f71 f72 f73 f74 f75 f76 f77 f78 f79 f80 f81 f82 f83 f84 f85 f86 f87 f88 f89 f90 f91 f92 f93 f94 f95 f96 f97 f98 f99 f100 f101 f102 f103 f104 f105 f106 f107 f108 f109 f110 f111 f112 f113 f114 f115 f116 f117 f118 f119 f120 f121 f122 f123 f124 f125 f126 f127 f128 f129 f130 f131 f132 f133 f134 f135 f136 f137 f138 f139 f140 f141 f142 f143 f144 f145 f146 f147 f148 f149 f150 f151 f152 f153 f154 f155 f156 f157 f158 f159 f160 f161 f162 f163 f164 f165 f166 f167 f168 f169 f170 f171 f172 f173 f174 f175 f176 f177 f178 f179 f180 f181 f182 f183 f184 f185 f186 f187 f188 f189 f190 f191 f192 f193 f194 f195 f196 f197 f198 f199 f200 f201 f202 f203 f204 f205 f206 f207 f208 f209 f210 f211 f212 f213 f214 f215 f216 f217 f218 f219 f220 f221 f222 f223 f224 f225 f226 f227 f228 f229 f230 f231 f232 f233 f234 f235 f236 f237 f238 f239 f240 f241 f242 f243 f244 f245 f246 f247 f248 f249 f250 f251 f252 f253 f254 f255 f256 f257 f258 f259 f260 f261 f262 f263 f264 f265 f266 f267 f268 f269 f270 f271 f272 f273 f274 f275 f276 f277 f278 f279 f280 f281 f282 f283 f284 f285 f286 f287 f288 f289 f290 f291 f292 f293 f294 f295 f296 : Value) (L : Nat → Bool) (v297 v298 v299 v300 v301 v302 v303 v304 v305 v306 v307 v308 v6 : Value) : Prop where
  e297 : L 0 = true → v297 = .agg A7
  e298 : L 1 = true → v298 = .agg A9
  e299 : L 2 = true → v299 = .bool (!ch)
  e300 : L 3 = true → v300 = .bool ch
  e301 : L 4 = true → v301 = .bool (!ch)
  e302 : L 5 = true → v302 = .bool true
  e303 : L 6 = true → v303 = .bool true
  e304 : L 7 = true → v304 = .agg A7
  e305 : L 8 = true → v305 = .agg x
  e307 : L 10 = true → v307 = .bool true
  e308 : L 11 = true → v308 = .bool true
  e6 : L 12 = true → v6 = .bool true
/-- The world. -/
structure Z41W (x A7 A9 : Array Value) (g p7 p9 kk : Nat) (t : St) (ch : Bool) (wb : World) (L : Nat → Bool) (v306 : Value) (w : World) : Prop where
  below : Below wb.heap.size wb w
  p306 : L 9 = true → IsSt w t v306
theorem Z41W.next (x A7 A9 : Array Value) (g p7 p9 kk : Nat) (t : St) (ch : Bool) (wb : World) (L : Nat → Bool) (v306 : Value) (w w' : World) (h : Z41W x A7 A9 g p7 p9 kk t ch wb L v306 w) (hb : Below w.heap.size w w') : Z41W x A7 A9 g p7 p9 kk t ch wb L v306 w' :=
  ⟨h.below.trans (hb.mono h.below.size), fun q => (h.p306 q).next hb⟩
abbrev Z41F (x A7 A9 : Array Value) (g p7 p9 kk : Nat) (t : St) (ch : Bool) (f0 f1 f4 f5 f8 f10 f11 f12 f13 f14 f16 f17 f18 f19 f20 f21 f22 f23 f24 f25 f26 f27 f28 f29 f30 f31 f32 f33 f34 f35 f36 f37 f38 f39 f40 f41 f42 f43 f44 f45 f46 f47 f48 f49 f50 f51 f52 f53 f54 f55 f56 f57 f58 f59 f60 f61 f62 f63 f64 f65 f66 f67 f68 f69 f70 f71 f72 f73 f74 f75 f76 f77 f78 f79 f80 f81 f82 f83 f84 f85 f86 f87 f88 f89 f90 f91 f92 f93 f94 f95 f96 f97 f98 f99 f100 f101 f102 f103 f104 f105 f106 f107 f108 f109 f110 f111 f112 f113 f114 f115 f116 f117 f118 f119 f120 f121 f122 f123 f124 f125 f126 f127 f128 f129 f130 f131 f132 f133 f134 f135 f136 f137 f138 f139 f140 f141 f142 f143 f144 f145 f146 f147 f148 f149 f150 f151 f152 f153 f154 f155 f156 f157 f158 f159 f160 f161 f162 f163 f164 f165 f166 f167 f168 f169 f170 f171 f172 f173 f174 f175 f176 f177 f178 f179 f180 f181 f182 f183 f184 f185 f186 f187 f188 f189 f190 f191 f192 f193 f194 f195 f196 f197 f198 f199 f200 f201 f202 f203 f204 f205 f206 f207 f208 f209 f210 f211 f212 f213 f214 f215 f216 f217 f218 f219 f220 f221 f222 f223 f224 f225 f226 f227 f228 f229 f230 f231 f232 f233 f234 f235 f236 f237 f238 f239 f240 f241 f242 f243 f244 f245 f246 f247 f248 f249 f250 f251 f252 f253 f254 f255 f256 f257 f258 f259 f260 f261 f262 f263 f264 f265 f266 f267 f268 f269 f270 f271 f272 f273 f274 f275 f276 f277 f278 f279 f280 f281 f282 f283 f284 f285 f286 f287 f288 f289 f290 f291 f292 f293 f294 f295 f296 : Value) (v297 v298 v299 v300 v301 v302 v303 v304 v305 v306 v307 v308 v6 : Value) : Act := { tmps := #[f0, f1, .int .u8 (kk : Nat), .pointer (some ⟨g, 0, none⟩), f4, f5, v6, .pointer (some ⟨p7, 0, none⟩), f8, .pointer (some ⟨p9, 0, none⟩), f10, f11, f12, f13, f14, .bool ch, f16, f17, f18, f19, f20, f21, f22, f23, f24, f25, f26, f27, f28, f29, f30, f31, f32, f33, f34, f35, f36, f37, f38, f39, f40, f41, f42, f43, f44, f45, f46, f47, f48, f49, f50, f51, f52, f53, f54, f55, f56, f57, f58, f59, f60, f61, f62, f63, f64, f65, f66, f67, f68, f69, f70, f71, f72, f73, f74, f75, f76, f77, f78, f79, f80, f81, f82, f83, f84, f85, f86, f87, f88, f89, f90, f91, f92, f93, f94, f95, f96, f97, f98, f99, f100, f101, f102, f103, f104, f105, f106, f107, f108, f109, f110, f111, f112, f113, f114, f115, f116, f117, f118, f119, f120, f121, f122, f123, f124, f125, f126, f127, f128, f129, f130, f131, f132, f133, f134, f135, f136, f137, f138, f139, f140, f141, f142, f143, f144, f145, f146, f147, f148, f149, f150, f151, f152, f153, f154, f155, f156, f157, f158, f159, f160, f161, f162, f163, f164, f165, f166, f167, f168, f169, f170, f171, f172, f173, f174, f175, f176, f177, f178, f179, f180, f181, f182, f183, f184, f185, f186, f187, f188, f189, f190, f191, f192, f193, f194, f195, f196, f197, f198, f199, f200, f201, f202, f203, f204, f205, f206, f207, f208, f209, f210, f211, f212, f213, f214, f215, f216, f217, f218, f219, f220, f221, f222, f223, f224, f225, f226, f227, f228, f229, f230, f231, f232, f233, f234, f235, f236, f237, f238, f239, f240, f241, f242, f243, f244, f245, f246, f247, f248, f249, f250, f251, f252, f253, f254, f255, f256, f257, f258, f259, f260, f261, f262, f263, f264, f265, f266, f267, f268, f269, f270, f271, f272, f273, f274, f275, f276, f277, f278, f279, f280, f281, f282, f283, f284, f285, f286, f287, f288, f289, f290, f291, f292, f293, f294, f295, f296, v297, v298, v299, v300, v301, v302, v303, v304, v305, v306, v307, v308], defers := [] }
def Z41I (x A7 A9 : Array Value) (g p7 p9 kk : Nat) (t : St) (ch : Bool) (f0 f1 f4 f5 f8 f10 f11 f12 f13 f14 f16 f17 f18 f19 f20 f21 f22 f23 f24 f25 f26 f27 f28 f29 f30 f31 f32 f33 f34 f35 f36 f37 f38 f39 f40 f41 f42 f43 f44 f45 f46 f47 f48 f49 f50 f51 f52 f53 f54 f55 f56 f57 f58 f59 f60 f61 f62 f63 f64 f65 f66 f67 f68 f69 f70 f71 f72 f73 f74 f75 f76 f77 f78 f79 f80 f81 f82 f83 f84 f85 f86 f87 f88 f89 f90 f91 f92 f93 f94 f95 f96 f97 f98 f99 f100 f101 f102 f103 f104 f105 f106 f107 f108 f109 f110 f111 f112 f113 f114 f115 f116 f117 f118 f119 f120 f121 f122 f123 f124 f125 f126 f127 f128 f129 f130 f131 f132 f133 f134 f135 f136 f137 f138 f139 f140 f141 f142 f143 f144 f145 f146 f147 f148 f149 f150 f151 f152 f153 f154 f155 f156 f157 f158 f159 f160 f161 f162 f163 f164 f165 f166 f167 f168 f169 f170 f171 f172 f173 f174 f175 f176 f177 f178 f179 f180 f181 f182 f183 f184 f185 f186 f187 f188 f189 f190 f191 f192 f193 f194 f195 f196 f197 f198 f199 f200 f201 f202 f203 f204 f205 f206 f207 f208 f209 f210 f211 f212 f213 f214 f215 f216 f217 f218 f219 f220 f221 f222 f223 f224 f225 f226 f227 f228 f229 f230 f231 f232 f233 f234 f235 f236 f237 f238 f239 f240 f241 f242 f243 f244 f245 f246 f247 f248 f249 f250 f251 f252 f253 f254 f255 f256 f257 f258 f259 f260 f261 f262 f263 f264 f265 f266 f267 f268 f269 f270 f271 f272 f273 f274 f275 f276 f277 f278 f279 f280 f281 f282 f283 f284 f285 f286 f287 f288 f289 f290 f291 f292 f293 f294 f295 f296 : Value) (wb : World) (L : Nat → Bool) (ac : Act) (w : World) : Prop :=
  ∃ v297 v298 v299 v300 v301 v302 v303 v304 v305 v306 v307 v308 v6, ac = Z41F x A7 A9 g p7 p9 kk t ch f0 f1 f4 f5 f8 f10 f11 f12 f13 f14 f16 f17 f18 f19 f20 f21 f22 f23 f24 f25 f26 f27 f28 f29 f30 f31 f32 f33 f34 f35 f36 f37 f38 f39 f40 f41 f42 f43 f44 f45 f46 f47 f48 f49 f50 f51 f52 f53 f54 f55 f56 f57 f58 f59 f60 f61 f62 f63 f64 f65 f66 f67 f68 f69 f70 f71 f72 f73 f74 f75 f76 f77 f78 f79 f80 f81 f82 f83 f84 f85 f86 f87 f88 f89 f90 f91 f92 f93 f94 f95 f96 f97 f98 f99 f100 f101 f102 f103 f104 f105 f106 f107 f108 f109 f110 f111 f112 f113 f114 f115 f116 f117 f118 f119 f120 f121 f122 f123 f124 f125 f126 f127 f128 f129 f130 f131 f132 f133 f134 f135 f136 f137 f138 f139 f140 f141 f142 f143 f144 f145 f146 f147 f148 f149 f150 f151 f152 f153 f154 f155 f156 f157 f158 f159 f160 f161 f162 f163 f164 f165 f166 f167 f168 f169 f170 f171 f172 f173 f174 f175 f176 f177 f178 f179 f180 f181 f182 f183 f184 f185 f186 f187 f188 f189 f190 f191 f192 f193 f194 f195 f196 f197 f198 f199 f200 f201 f202 f203 f204 f205 f206 f207 f208 f209 f210 f211 f212 f213 f214 f215 f216 f217 f218 f219 f220 f221 f222 f223 f224 f225 f226 f227 f228 f229 f230 f231 f232 f233 f234 f235 f236 f237 f238 f239 f240 f241 f242 f243 f244 f245 f246 f247 f248 f249 f250 f251 f252 f253 f254 f255 f256 f257 f258 f259 f260 f261 f262 f263 f264 f265 f266 f267 f268 f269 f270 f271 f272 f273 f274 f275 f276 f277 f278 f279 f280 f281 f282 f283 f284 f285 f286 f287 f288 f289 f290 f291 f292 f293 f294 f295 f296 v297 v298 v299 v300 v301 v302 v303 v304 v305 v306 v307 v308 v6 ∧ Z41S x A7 A9 g p7 p9 kk t ch f0 f1 f4 f5 f8 f10 f11 f12 f13 f14 f16 f17 f18 f19 f20 f21 f22 f23 f24 f25 f26 f27 f28 f29 f30 f31 f32 f33 f34 f35 f36 f37 f38 f39 f40 f41 f42 f43 f44 f45 f46 f47 f48 f49 f50 f51 f52 f53 f54 f55 f56 f57 f58 f59 f60 f61 f62 f63 f64 f65 f66 f67 f68 f69 f70 f71 f72 f73 f74 f75 f76 f77 f78 f79 f80 f81 f82 f83 f84 f85 f86 f87 f88 f89 f90 f91 f92 f93 f94 f95 f96 f97 f98 f99 f100 f101 f102 f103 f104 f105 f106 f107 f108 f109 f110 f111 f112 f113 f114 f115 f116 f117 f118 f119 f120 f121 f122 f123 f124 f125 f126 f127 f128 f129 f130 f131 f132 f133 f134 f135 f136 f137 f138 f139 f140 f141 f142 f143 f144 f145 f146 f147 f148 f149 f150 f151 f152 f153 f154 f155 f156 f157 f158 f159 f160 f161 f162 f163 f164 f165 f166 f167 f168 f169 f170 f171 f172 f173 f174 f175 f176 f177 f178 f179 f180 f181 f182 f183 f184 f185 f186 f187 f188 f189 f190 f191 f192 f193 f194 f195 f196 f197 f198 f199 f200 f201 f202 f203 f204 f205 f206 f207 f208 f209 f210 f211 f212 f213 f214 f215 f216 f217 f218 f219 f220 f221 f222 f223 f224 f225 f226 f227 f228 f229 f230 f231 f232 f233 f234 f235 f236 f237 f238 f239 f240 f241 f242 f243 f244 f245 f246 f247 f248 f249 f250 f251 f252 f253 f254 f255 f256 f257 f258 f259 f260 f261 f262 f263 f264 f265 f266 f267 f268 f269 f270 f271 f272 f273 f274 f275 f276 f277 f278 f279 f280 f281 f282 f283 f284 f285 f286 f287 f288 f289 f290 f291 f292 f293 f294 f295 f296 L v297 v298 v299 v300 v301 v302 v303 v304 v305 v306 v307 v308 v6 ∧ Z41W x A7 A9 g p7 p9 kk t ch wb L v306 w
set_option maxRecDepth 100000 in
set_option maxHeartbeats 16000000 in
theorem s41 (w0 : World) (x A7 A9 : Array Value) (g p7 p9 kk : Nat) (t : St) (v1 v2 v3 v4 : Value) (z1 : Option Addr) (n1 c1 : Nat) (z2 : Option Addr) (n2 c2 : Nat) (z3 : Option Addr) (n3 c3 : Nat) (z4 : Option Addr) (n4 c4 : Nat) (HH : Hid (SmH w0 x A7 g p7 p9 kk t v1 v2 v3 v4 z1 n1 c1 z2 n2 c2 z3 n3 c3 z4 n4 c4)) (tC : St) (ch : Bool) (HSC : sameB t tC = !ch) (f0 f1 f4 f5 f6 f8 f10 f11 f12 f13 f14 f16 f17 f18 f19 f20 f21 f22 f23 f24 f25 f26 f27 f28 f29 f30 f31 f32 f33 f34 f35 f36 f37 f38 f39 f40 f41 f42 f43 f44 f45 f46 f47 f48 f49 f50 f51 f52 f53 f54 f55 f56 f57 f58 f59 f60 f61 f62 f63 f64 f65 f66 f67 f68 f69 f70 f71 f72 f73 f74 f75 f76 f77 f78 f79 f80 f81 f82 f83 f84 f85 f86 f87 f88 f89 f90 f91 f92 f93 f94 f95 f96 f97 f98 f99 f100 f101 f102 f103 f104 f105 f106 f107 f108 f109 f110 f111 f112 f113 f114 f115 f116 f117 f118 f119 f120 f121 f122 f123 f124 f125 f126 f127 f128 f129 f130 f131 f132 f133 f134 f135 f136 f137 f138 f139 f140 f141 f142 f143 f144 f145 f146 f147 f148 f149 f150 f151 f152 f153 f154 f155 f156 f157 f158 f159 f160 f161 f162 f163 f164 f165 f166 f167 f168 f169 f170 f171 f172 f173 f174 f175 f176 f177 f178 f179 f180 f181 f182 f183 f184 f185 f186 f187 f188 f189 f190 f191 f192 f193 f194 f195 f196 f197 f198 f199 f200 f201 f202 f203 f204 f205 f206 f207 f208 f209 f210 f211 f212 f213 f214 f215 f216 f217 f218 f219 f220 f221 f222 f223 f224 f225 f226 f227 f228 f229 f230 f231 f232 f233 f234 f235 f236 f237 f238 f239 f240 f241 f242 f243 f244 f245 f246 f247 f248 f249 f250 f251 f252 f253 f254 f255 f256 f257 f258 f259 f260 f261 f262 f263 f264 f265 f266 f267 f268 f269 f270 f271 f272 f273 f274 f275 f276 f277 f278 f279 f280 f281 f282 f283 f284 f285 f286 f287 f288 f289 f290 f291 f292 f293 f294 f295 f296 f297 f298 f299 f300 f301 f302 f303 f304 f305 f306 f307 f308 : Value) (wj : World) (KC : S41 w0 x A7 A9 g p7 p9 t v1 v2 v3 v4 z1 n1 c1 z2 n2 c2 z3 n3 c3 z4 n4 c4 tC wj) :
    Code.wp Try.prog (tail4 41) (bodyPost Try.prog Try.f4 fun e w' => e = .returned (.bool true) ∧ Below w0.heap.size w0 w') { tmps := #[f0, f1, .int .u8 (kk : Nat), .pointer (some ⟨g, 0, none⟩), f4, f5, f6, .pointer (some ⟨p7, 0, none⟩), f8, .pointer (some ⟨p9, 0, none⟩), f10, f11, f12, f13, f14, .bool ch, f16, f17, f18, f19, f20, f21, f22, f23, f24, f25, f26, f27, f28, f29, f30, f31, f32, f33, f34, f35, f36, f37, f38, f39, f40, f41, f42, f43, f44, f45, f46, f47, f48, f49, f50, f51, f52, f53, f54, f55, f56, f57, f58, f59, f60, f61, f62, f63, f64, f65, f66, f67, f68, f69, f70, f71, f72, f73, f74, f75, f76, f77, f78, f79, f80, f81, f82, f83, f84, f85, f86, f87, f88, f89, f90, f91, f92, f93, f94, f95, f96, f97, f98, f99, f100, f101, f102, f103, f104, f105, f106, f107, f108, f109, f110, f111, f112, f113, f114, f115, f116, f117, f118, f119, f120, f121, f122, f123, f124, f125, f126, f127, f128, f129, f130, f131, f132, f133, f134, f135, f136, f137, f138, f139, f140, f141, f142, f143, f144, f145, f146, f147, f148, f149, f150, f151, f152, f153, f154, f155, f156, f157, f158, f159, f160, f161, f162, f163, f164, f165, f166, f167, f168, f169, f170, f171, f172, f173, f174, f175, f176, f177, f178, f179, f180, f181, f182, f183, f184, f185, f186, f187, f188, f189, f190, f191, f192, f193, f194, f195, f196, f197, f198, f199, f200, f201, f202, f203, f204, f205, f206, f207, f208, f209, f210, f211, f212, f213, f214, f215, f216, f217, f218, f219, f220, f221, f222, f223, f224, f225, f226, f227, f228, f229, f230, f231, f232, f233, f234, f235, f236, f237, f238, f239, f240, f241, f242, f243, f244, f245, f246, f247, f248, f249, f250, f251, f252, f253, f254, f255, f256, f257, f258, f259, f260, f261, f262, f263, f264, f265, f266, f267, f268, f269, f270, f271, f272, f273, f274, f275, f276, f277, f278, f279, f280, f281, f282, f283, f284, f285, f286, f287, f288, f289, f290, f291, f292, f293, f294, f295, f296, f297, f298, f299, f300, f301, f302, f303, f304, f305, f306, f307, f308], defers := [] } wj := by
  have K0 := Lib.hid KC
  have HS := Lib.hid HSC
  clear KC HSC
  conv => arg 2; whnf
  conv => arg 4; zeta
  go_upto_region 41 with fail
  refine wp_region_inv (I := Z41I x A7 A9 g p7 p9 kk t ch _ _ _ _ _ _ _ _ _ _ _ _ _ _ _ _ _ _ _ _ _ _ _ _ _ _ _ _ _ _ _ _ _ _ _ _ _ _ _ _ _ _ _ _ _ _ _ _ _ _ _ _ _ _ _ _ _ _ _ _ _ _ _ _ _ _ _ _ _ _ _ _ _ _ _ _ _ _ _ _ _ _ _ _ _ _ _ _ _ _ _ _ _ _ _ _ _ _ _ _ _ _ _ _ _ _ _ _ _ _ _ _ _ _ _ _ _ _ _ _ _ _ _ _ _ _ _ _ _ _ _ _ _ _ _ _ _ _ _ _ _ _ _ _ _ _ _ _ _ _ _ _ _ _ _ _ _ _ _ _ _ _ _ _ _ _ _ _ _ _ _ _ _ _ _ _ _ _ _ _ _ _ _ _ _ _ _ _ _ _ _ _ _ _ _ _ _ _ _ _ _ _ _ _ _ _ _ _ _ _ _ _ _ _ _ _ _ _ _ _ _ _ _ _ _ _ _ _ _ _ _ _ _ _ _ _ _ _ _ _ _ _ _ _ _ _ _ _ _ _ _ _ _ _ _ _ _ _ _ _ _ _ _ _ _ _ _ _ _ _ _ _ _ _ _ _ _ _ _ _ _ _ _ _ _ _ _ _ _ _ _ wj) (by kernel_rfl) (by kernel_rfl) ⟨_, _, _, _, _, _, _, _, _, _, _, _, _, rfl, ⟨(fun h => Bool.noConfusion h), (fun h => Bool.noConfusion h), (fun h => Bool.noConfusion h), (fun h => Bool.noConfusion h), (fun h => Bool.noConfusion h), (fun h => Bool.noConfusion h), (fun h => Bool.noConfusion h), (fun h => Bool.noConfusion h), (fun h => Bool.noConfusion h), (fun h => Bool.noConfusion h), (fun h => Bool.noConfusion h), (fun h => Bool.noConfusion h)⟩, ⟨(Below.refl _ _).drew, (fun h => Bool.noConfusion h)⟩⟩ ?_ ?_
  · intro o ho Lx ac w' hI hL haft
    obtain ⟨v297, v298, v299, v300, v301, v302, v303, v304, v305, v306, v307, v308, v6, rfl, hs, hw⟩ := hI
    match o, ho with
    | 0, _ =>
      exact i_val rfl (.agg A7) w' (by rfl) (run_loadVar_of 41 _ rfl p7 rfl 41 A7 _ (K0.out.next hw.below).k7 Try.underlying41 rfl HH.out.i7) ⟨(.agg A7), v298, v299, v300, v301, v302, v303, v304, v305, v306, v307, v308, v6, rfl, { hs with e297 := fun _ => rfl }, { hw with }⟩
    | 1, _ =>
      exact i_val rfl (.agg A9) w' (by rfl) (run_loadVar_of 41 _ rfl p9 rfl 41 A9 _ (K0.out.next hw.below).k9 Try.underlying41 rfl (K0.out.next hw.below).i9) ⟨v297, (.agg A9), v299, v300, v301, v302, v303, v304, v305, v306, v307, v308, v6, rfl, { hs with e298 := fun _ => rfl }, { hw with }⟩
    | 2, _ =>
      have e297x := hs.e297 (haft 0 (by decide))
      subst e297x
      have e298x := hs.e298 (haft 1 (by decide))
      subst e298x
      exact i_call rfl (.bool (!ch)) 10 #[.agg A7, .agg A9] (fun w2 => Below w'.heap.size w' w2) (by rfl) (by go_simp) (by have h := same_is ((K0.out.next hw.below).is7 HH.out.q7) (K0.out.next hw.below).is9; rwa [HS.out] at h) fun w2 hb => ⟨(.agg A7), (.agg A9), (.bool (!ch)), v300, v301, v302, v303, v304, v305, v306, v307, v308, v6, rfl, { hs with e299 := fun _ => rfl }, { hw.next (hb := hb) with }⟩
    | 3, _ =>
      exact i_val rfl (.bool ch) w' (by rfl) (by go_simp) ⟨v297, v298, v299, (.bool ch), v301, v302, v303, v304, v305, v306, v307, v308, v6, rfl, { hs with e300 := fun _ => rfl }, { hw with }⟩
    | 4, _ =>
      have e300x := hs.e300 (haft 3 (by decide))
      subst e300x
      exact i_val rfl (.bool (!ch)) w' (by rfl) (by go_simp) ⟨v297, v298, v299, (.bool ch), (.bool (!ch)), v302, v303, v304, v305, v306, v307, v308, v6, rfl, { hs with e301 := fun _ => rfl }, { hw with }⟩
    | 5, _ =>
      have e299x := hs.e299 (haft 2 (by decide))
      subst e299x
      have e301x := hs.e301 (haft 4 (by decide))
      subst e301x
      exact i_val rfl (.bool true) w' (by rfl) (by cases ch <;> go_simp) ⟨v297, v298, (.bool (!ch)), v300, (.bool (!ch)), (.bool true), v303, v304, v305, v306, v307, v308, v6, rfl, { hs with e302 := fun _ => rfl }, { hw with }⟩
    | 6, _ =>
      have e302x := hs.e302 (haft 5 (by decide))
      subst e302x
      exact i_val rfl (.bool true) w' (by rfl) (by go_simp) ⟨v297, v298, v299, v300, v301, (.bool true), (.bool true), v304, v305, v306, v307, v308, v6, rfl, { hs with e303 := fun _ => rfl }, { hw with }⟩
    | 7, _ =>
      have e303x := hs.e303 (haft 6 (by decide))
      subst e303x
      exact i_val rfl (.agg A7) w' (by rfl) (run_loadVar_of 41 _ rfl p7 rfl 41 A7 _ (K0.out.next hw.below).k7 Try.underlying41 rfl HH.out.i7) ⟨v297, v298, v299, v300, v301, v302, (.bool true), (.agg A7), v305, v306, v307, v308, v6, rfl, { hs with e304 := fun _ => rfl }, { hw with }⟩
    | 8, _ =>
      have e303x := hs.e303 (haft 6 (by decide))
      subst e303x
      exact i_val rfl (.agg x) w' (by rfl) (run_loadVar_of 30 _ rfl g rfl 30 x _ (K0.out.next hw.below).ki Try.underlying30 rfl HH.out.xi) ⟨v297, v298, v299, v300, v301, v302, (.bool true), v304, (.agg x), v306, v307, v308, v6, rfl, { hs with e305 := fun _ => rfl }, { hw with }⟩
    | 9, _ =>
      have e303x := hs.e303 (haft 6 (by decide))
      subst e303x
      have e305x := hs.e305 (haft 8 (by decide))
      subst e305x
      refine i_callx rfl 6 #[.agg x] (fun v w2 => IsSt w2 t v ∧ Below w'.heap.size w' w2) (by rfl) (by go_simp) (HH.out.made w' (K0.out.next hw.below).below) ?_
      intro u w2 ⟨hq, hb⟩
      exact ⟨v297, v298, v299, v300, v301, v302, (.bool true), v304, (.agg x), u, v307, v308, v6, rfl, { hs with }, { hw.next (hb := hb) with p306 := fun _ => hq }⟩
    | 10, _ =>
      have e303x := hs.e303 (haft 6 (by decide))
      subst e303x
      have e304x := hs.e304 (haft 7 (by decide))
      subst e304x
      have p306x := hw.p306 (haft 9 (by decide))
      exact i_call rfl (.bool true) 10 #[.agg A7, v306] (fun w2 => Below w'.heap.size w' w2) (by rfl) (by go_simp) (by have h := same_is ((K0.out.next hw.below).is7 HH.out.q7) p306x; rwa [sameB_self] at h) fun w2 hb => ⟨v297, v298, v299, v300, v301, v302, (.bool true), (.agg A7), v305, v306, (.bool true), v308, v6, rfl, { hs with e307 := fun _ => rfl }, { hw.next (hb := hb) with }⟩
    | 11, _ =>
      have e303x := hs.e303 (haft 6 (by decide))
      subst e303x
      have e307x := hs.e307 (haft 10 (by decide))
      subst e307x
      exact i_val rfl (.bool true) w' (by rfl) (by go_simp) ⟨v297, v298, v299, v300, v301, v302, (.bool true), v304, v305, v306, (.bool true), (.bool true), v6, rfl, { hs with e308 := fun _ => rfl }, { hw with }⟩
    | 12, _ =>
      have e308x := hs.e308 (haft 11 (by decide))
      subst e308x
      exact i_val rfl (.bool true) w' (by rfl) (by go_simp) ⟨v297, v298, v299, v300, v301, v302, v303, v304, v305, v306, v307, (.bool true), (.bool true), rfl, { hs with e6 := fun _ => rfl }, { hw with }⟩
    | k + 13, h =>
      exfalso
      have h2 : k + 13 < 13 := h
      omega
  intro Lx ac w9 hI hall
  obtain ⟨v297, v298, v299, v300, v301, v302, v303, v304, v305, v306, v307, v308, v6, rfl, hs, hw⟩ := hI
  have e297y := hs.e297 (hall 0 (by decide))
  subst e297y
  have e298y := hs.e298 (hall 1 (by decide))
  subst e298y
  have e299y := hs.e299 (hall 2 (by decide))
  subst e299y
  have e300y := hs.e300 (hall 3 (by decide))
  subst e300y
  have e301y := hs.e301 (hall 4 (by decide))
  subst e301y
  have e302y := hs.e302 (hall 5 (by decide))
  subst e302y
  have e303y := hs.e303 (hall 6 (by decide))
  subst e303y
  have e304y := hs.e304 (hall 7 (by decide))
  subst e304y
  have e305y := hs.e305 (hall 8 (by decide))
  subst e305y
  have e307y := hs.e307 (hall 10 (by decide))
  subst e307y
  have e308y := hs.e308 (hall 11 (by decide))
  subst e308y
  have e6y := hs.e6 (hall 12 (by decide))
  subst e6y
  have W9 := Lib.hid hw.below
  clear hs hall hw
  go_wp2_with fail
  go_ret
  exact ⟨rfl, (K0.out.next W9.out).below⟩
end Go.Proofs.Ytpbdamnlfpfclaa
