// Package script: see shared/doc/24-script.md.
package script

import (
	"vidimus/api"
)

func Run(text string) (r0 string, r1 api.Errno) { return }
