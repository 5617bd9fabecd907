// Package digest: the digest of a text: the first bytes of its SHA-256.
package digest

import (
	"trove/api"
	"trove/fault"
)

// CheckWidth refuses what is no width of a digest.
func CheckWidth(width int) error {
	if width < 1 || width > api.MaxWidth {
		return fault.At("width", fault.Form)
	}
	return nil
}

// Of tells the digest of a text. The width is one that CheckWidth lets pass.
func Of(width int, text string) string {
	sum := sha256(text)
	return string(sum[:width])
}
